import PyProof.Rows.All
import Wide.All
import OpenK.AllK
import Wide.FinOn
import HandS.ForExc
import HandS.TryMany
import HandS.Evl
import HandS.IsInst
import HandS.EndTab
import HandS.ForMost
import HandS.EndOwn
import HandS.Lambda
import HandS.Deep
import HandS.Iter
import HandS.NoneIn
import HandS.TupMul
import HandS.TupAny
import HandS.Wide
import PyProof.P3In
import PyProof.Rows.InDataRows
import HandS.MakeKwOnly
import PyProof.ReprRoads
import HandS.Conv
import HandS.Zip
import HandS.AnyAll
import PyProof.GenCompD
import HandS.Comp
import HandS.Style
import PyProof.Rows.Walk
import PySem.Challenge.RW_leastpromise_k06_whole_frames_and_progra
set_option Elab.async false
set_option linter.all false
set_option maxRecDepth 100000
set_option maxHeartbeats 4000000
/-! Errors of one family: classes over one own class over Exception, each with an __init__ that stores one field. -/
namespace PySem
namespace PErr
open PySem.W PySem.Calls PyProof.Rows
abbrev tailE : List Value := [.type "Exception", .type "BaseException", .type "object"]
abbrev mroE (C B : Addr) : List Value := .ref C :: .ref B :: tailE
theorem tail_has (B : Addr) (X : String) : (Value.ref B :: tailE).contains (.type X) = tailE.contains (.type X) := by
  rw [List.contains_cons]; rfl
/-- what the written part says of an error class -/
structure Cl (K : Frag) (mg : Str → Option Value) (x : Str) (C B : Addr) : Prop where
  gC : mg x = some (.ref C)
  cls : ∃ nm q N bs sn sub ab col dd k0 k1 k2 k3 k5, K.lookup C = some (excClassObj nm q C N bs (.ref B :: tailE) true sn sub ab col dd k0 k1 k2 k3 k5 "Exception.__new__")
  sa : findIn K (.ref C) "__setattr__" = some (some (.builtin "object.__setattr__"))
  ga : findIn K (.ref C) "__getattribute__" = some (some (.builtin "BaseException.__getattribute__"))
  gg : findIn K (.ref C) "__getattr__" = some none
  kC : keepIn K (.ref C) = true
  exC : subIn K (.ref C) (.type "BaseException") = some true
  tyC : typeIn K (.ref C) = some (.type "type")
  hdC : hasDictIn K C = true
theorem one_size (v : Value) : [v].length ≤ sizeLine := by
  rw [sizeLine_eq]
  exact (by decide : 1 ≤ 16777216)
theorem ldC {M : Model} {s : Shared} {name : Str} {scope : Scope} {L a : Addr} {cd : Value} {m : Str → Option Value} {x : Str} {pos : Pos} {v : Value} {Q : Value → Shared → Prop} {A : Around} {E : Value → Shared → Prop} (hn : s.heap.Ns L m) (hv : m x = some v) (h : Q v s)
    (hk : scope.kind = .function := by rfl) (hl : (envOfC name scope L a cd).kindOf x = some .local := by rfl) (hd : (x == ("__debug__" : Str)) = false := by decide) :
    wpAny M A (eval (.Name x pos) (envOfC name scope L a cd)) Q E s := wpAny_Name (wpAny_loadName_local hk hl hn hv h) hd
open Builtin Builtin.ObjectAttr in
/-- self.name = v on an exception of the family that has no dict yet -/
theorem osa {prog : Program} {w : World} {A : Around} {R : Result → Shared → Prop} {hp : Heap} {g : Array GenState} {d : Drawn} {t : Nat} {os : OsState}
    {K : W.Frag} {name : Str} {tk : Tok} {v : Value} {x C B : Addr} {fv : Array Value} {cd : ClassData}
    (X : K.In hp) (hx : hp.get? x = some { cls := .ref C, data := .fields fv }) (hcd : W.clsIn K C = some cd) (hm : cd.mro = mroE C B) (hh : cd.hasDict = true) (ha : W.findIn K (.ref C) name = some none)
    (hq : ∀ h' tk' dx, (∀ b o, b ≠ x → hp.get? b = some o → h'.get? b = some o) → hp.objs.size ≤ dx → dx ≠ x → h'.get? x = some { cls := .ref C, dict := some dx, data := .fields fv } →
      h'.Ns1 dx (fun y => if y = name then some v else none) → R (.ok (.ret .none)) ⟨h', g, d, tk', os⟩) :
    codeAny (model prog w) A (.call (.builtin "object.__setattr__") ⟨[.ref x, .str name tk, v], []⟩) R ⟨hp, g, d, t, os⟩ := by
  have I : W.InstAt hp x { cls := .ref C, data := .fields fv } C none := ⟨hx, rfl, rfl, trivial⟩
  have hxs : x ≠ hp.objs.size := Nat.ne_of_lt (Heap.lt_size hx)
  have SF := F.store_object
  have hob : (mroE C B).contains (.type "object") = true := by
    rw [List.contains_cons, tail_has]
    exact (Bool.or_eq_true _ _).mpr (.inr (by decide +kernel))
  have hmo : W.mroIn K C (.type "object") = some true := by
    unfold W.mroIn
    rw [hcd, Option.bind_some, hm, if_neg (show ¬ (List.isEmpty (mroE C B) = true) from Bool.false_ne_true), hob]
  have isO : W.Looks (model prog w) hp (isInstance (.ref x) (.type "object")) true := I.type.andThen (W.looks_mroIn X hmo)
  refine codeAny_call_builtin SF.slot.plain SF.entry ?_
  refine @W.check_slot (model prog w) _ _ ⟨hp, g, d, t, os⟩ "object.__setattr__" "object" "__setattr__" (.ref x) [.str name tk, v] [] _ SF.kind SF.split isO (SF.args (.ref x) (.str name tk) v) ?_
  have hmr : W.Looks (model prog w) hp (mroOf (.ref C)) cd.mro := (W.looks_clsIn X hcd).andThen .now
  have hpass : refuseLoop (.ref x) "__setattr__" cd.mro = pure () := by
    rw [hm, refuseLoop_ref, refuseLoop_ref]
    exact F.store_Exception.passes _
  rw [W.osa_eq, refuse_eq]
  refine wpAny_bind (wpAny_bind (I.type.at (wpAny_bind (hmr.at ?_))))
  rw [hpass]
  have LN : W.Looks (model prog w) hp (storeTaker? none) none := .now
  refine wpAny_pure (wpAny_bind (I.type.at (wpAny_bind ((W.looks_findIn X ha).at (wpAny_bind (LN.at ?_))))))
  show wpAny _ _ (storeInOwnDict (.ref x) (.ref C) (.str name tk) name v false) _ _ _
  have hcls : W.Looks (model prog w) hp (classData C) cd := W.looks_clsIn X hcd
  obtain ⟨nm, bs, mro, ns, qn, hd, sn, sb, ab, col, del⟩ := cd
  dsimp only at hh
  subst hh
  unfold storeInOwnDict ownDictForStores
  repeat (first | with_reducible refine HandSPX.store_in_new ?_ ?_ | with_reducible refine wpAny_loadPart_at hx ?_ | with_reducible refine hcls.at ?_ | wp_step)
  · exact ⟨_, #[], _, (Heap.get?_update_ne _ _ _ _ hxs.symm).trans (Heap.get?_push_at rfl rfl), rfl, fun e he => absurd he (by simp), fun _ => rfl⟩
  · intro h' tk' hn' hs
    have hx₁ : (hp.push { cls := .type "dict", data := .dict #[] }).get? x = some { cls := .ref C, data := .fields fv } := Heap.get?_push_of_some _ hx
    refine hq h' tk' hp.objs.size (fun b o hb ho => ?_) (Nat.le_refl _) hxs.symm ?_ hn'
    · exact (hs.2 b (Nat.ne_of_lt (Heap.lt_size ho))).trans ((Heap.get?_update_ne _ _ _ _ hb).trans (Heap.get?_push_of_some _ ho))
    · exact (hs.2 x hxs).trans (Heap.get?_update_self _ hx₁ rfl)
end PErr
end PySem

namespace PySem
namespace PErrA
open PySem.W PySem.Calls PyProof.Rows PySem.PErr
/-! ### the text of __init__(self, at): self.at = at -/
def args (p1 p2 : Pos) : Arguments := { posonlyargs := [], args := [⟨"self", none, p1⟩, ⟨"at", none, p2⟩], vararg := none, kwonlyargs := [], kw_defaults := [], kwarg := none, defaults := [] }
def body (q1 q2 q3 q4 : Pos) : List Stmt := [.Assign [.Attribute (.Name "self" q1) "at" q2] (.Name "at" q3) q4]
def scop : Scope := { kind := .function, names := [(PySem.Str.ofString "self", .local), (PySem.Str.ofString "at", .local)], isGenerator := false, isCoroutine := false, more := [] }
/-- what the written part says of the class named x at C (its base at B) and of its __init__ at fI -/
structure Txt (K : Frag) (mg : Str → Option Value) (x q : Str) (C B fI : Addr) : Prop where
  base : PySem.PErr.Cl K mg x C B
  noN : findIn K (.ref C) "at" = some none
  iC : findIn K (.ref C) "__init__" = some (some (.ref fI))
  tC : typeIn K (.ref fI) = some (.type "function")
  fn : ∃ (oc : Value) (od : Option Addr) (doc pm : Value) (an : Option Addr) (cdv ct : Value) (osl : Array (Option Value)) (p1 p2 q1 q2 q3 q4 : Pos),
    K.lookup fI = some ⟨oc, od, .func (fnOf "__init__" q (args p1 p2) (body q1 q2 q3 q4) scop .none .none doc pm an cdv ct), osl⟩ ∧ codeIn K cdv q = true
/-- what __init__ leaves of a fresh exception at x -/
structure InitEnd (h h' : Heap) (x C dx t1 : Addr) (v : Value) : Prop where
  keep : ∀ b o, b ≠ x → h.get? b = some o → h'.get? b = some o
  obj : h'.get? x = some { cls := .ref C, dict := some dx, data := .fields #[.ref t1, .none, .none, .none, .bool false, .none] }
  dbig : h.objs.size ≤ dx
  dne : dx ≠ x
  ns : h'.Ns1 dx (fun y => if y = "at" then some v else none)
structure OwnMade (h h' : Heap) (e C d : Addr) (v : Value) : Prop where
  keep : ∀ b o, h.get? b = some o → h'.get? b = some o
  new : h.objs.size ≤ e
  obj : ∃ oe vs, h'.get? e = some oe ∧ oe.cls = .ref C ∧ oe.dict = some d ∧ oe.data = .fields vs ∧ vs[1]? = some .none
  dbig : h.objs.size ≤ d
  dne : d ≠ e
  ns : h'.Ns1 d (fun y => if y = "at" then some v else none)
section
variable {prog : Program} {w : World} {A : Around} {E : Value → Shared → Prop} {R : Result → Shared → Prop} {s : Shared} {K : Frag} {mg : Str → Option Value} {C B fI : Addr} {cn q : Str}
theorem init_ok (T : Txt K mg cn q C B fI) {x t0 : Addr} {v : Value} {args : Args} (hba : ∀ (p1 p2 q1 q2 q3 q4 : Pos) (doc pm : Value) (an : Option Addr) (cdv ct : Value) (s : Shared), BindsTo s (fnOf "__init__" q (PErrA.args p1 p2) (body q1 q2 q3 q4) scop .none .none doc pm an cdv ct) args [("self", .ref x), ("at", v)]) (X : K.In s.heap) (hlim : s.heap.NoLimit) (hx : s.heap.get? x = some (HandSPX.excO C t0)) (hroom : A.depth < recursionLimit)
    (hq : ∀ h' tk dx, InitEnd s.heap h' x C dx t0 v → R (.ok (.ret .none)) { s with heap := h', toks := tk }) :
    codeAny (model prog w) A (.call (.ref fI) args) R s := by
  obtain ⟨oc, od, doc, pm, an, cdv, ct, osl, p1, p2, q1, q2, q3, q4, ho, hcd⟩ := T.fn
  obtain ⟨nm, qq, N, bs, sn, sub, ab, col, dd, k0, k1, k2, k3, k5, hC⟩ := T.base.cls
  have hcl : clsIn K C = some { name := nm, bases := bs, mro := mroE C B, ns := N, qualname := qq, hasDict := true, slotNames := sn, subclasses := sub, abstract := ab, collection := col, hasDel := false } := by unfold clsIn; rw [hC] <;> rfl
  refine Att.call_fn (binds := [("self", .ref x), ("at", v)]) X hlim ho hcd hroom (hba p1 p2 q1 q2 q3 q4 doc pm an cdv ct s) (by first | rfl | decide | with_unfolding_all rfl) (fun s₁ IC => ?_) rfl rfl rfl
  obtain ⟨h₁, tk₁, rfl⟩ := IC.toInCall.same
  have k : ∀ b o, s.heap.get? b = some o → h₁.get? b = some o := IC.toInCall.keep
  have hn := IC.toInCall.ns
  have X₁ : K.In h₁ := X.keeps k
  have hx₁ := k _ _ hx
  show wpAny _ _ (execs _ _) _ _ _
  refine wpAny_execs_cons (plainObj_wpAny_Assign_Attribute ?_)
  refine PErr.ldC (v := v) hn (by first | rfl | with_unfolding_all rfl | kernel_rfl) (PErr.ldC (v := .ref x) hn (by first | rfl | with_unfolding_all rfl | kernel_rfl) ?_)
  refine set_plain X₁ (ox := HandSPX.excO C t0) (od := none) ⟨hx₁, rfl, rfl, trivial⟩ T.base.sa ?_
  refine PErr.osa X₁ hx₁ hcl rfl rfl T.noN (fun h₃ tk₃ dx k₃ dn dne hx₃ hn₃ => ?_)
  show wpAny _ _ (execs _ _) _ _ _
  have z : s.heap.objs.size < h₁.objs.size := hn.lt
  exact wpAny_execs_nil (hq h₃ tk₃ dx ⟨fun b o hb e => k₃ b o hb (k b o e), hx₃, Nat.le_of_lt (Nat.lt_of_lt_of_le z dn), dne, hn₃⟩)
theorem made_ok (T : Txt K mg cn q C B fI) {v : Value} (X : K.In s.heap) (hlim : s.heap.NoLimit) (hroom : A.depth + 1 < recursionLimit)
    (hq : ∀ h' tk e d, OwnMade s.heap h' e C d v → R (.ok (.ret (.ref e))) { s with heap := h', toks := tk }) :
    codeAny (model prog w) A (.call (.ref C) ⟨[v], []⟩) R s := by
  obtain ⟨nm, qq, N, bs, sn, sub, ab, col, dd, k0, k1, k2, k3, k5, hC⟩ := T.base.cls
  obtain ⟨hp, g, dr, tk, os⟩ := s
  have k : ∀ b o, hp.get? b = some o → ((hp.push (kdv_tup [v])).push (HandSPX.excO C hp.objs.size)).get? b = some o := fun b o e => Heap.get?_push_of_some _ (Heap.get?_push_of_some _ e)
  have hget : ((hp.push (kdv_tup [v])).push (HandSPX.excO C hp.objs.size)).get? (hp.objs.size + 1) = some (HandSPX.excO C hp.objs.size) := by heap_get
  refine HandSPX.call_own F.excBase_Exception (fun X => PErr.tail_has B X) (X _ _ hC) (looks_findIn X T.iC) (fun self => bind_fn X self T.tC) (PErr.one_size v) ?_
  refine init_ok (s := ⟨(hp.push (kdv_tup [v])).push (HandSPX.excO C hp.objs.size), g, dr, tk, os⟩) T (v := v) (fun _ _ _ _ _ _ _ _ _ _ _ _ => BindsTo.of_eq (by first | rfl | with_unfolding_all rfl)) (X.keeps k) (hlim.keeps k) hget ?_ fun h' tk' dx ⟨k', hx, dn, dne, hns⟩ => ?_
  · show A.depth + 1 < recursionLimit
    exact hroom
  · have old : ∀ b o, hp.get? b = some o → h'.get? b = some o := fun b o e => k' b o (Nat.ne_of_lt (Nat.lt_succ_of_lt (Heap.lt_size e))) (k b o e)
    have z : hp.objs.size + 1 + 1 ≤ dx := by
      first
        | (simpa only [Heap.size_push] using dn)
        | exact dn
        | (have q := dn; rw [Heap.size_push, Heap.size_push] at q; exact q)
    exact ⟨rfl, hq h' tk' (hp.objs.size + 1) dx ⟨old, Nat.le_succ _, ⟨_, _, hx, rfl, rfl, rfl, rfl⟩, Nat.le_trans (Nat.le_trans (Nat.le_succ _) (Nat.le_succ _)) z, dne, hns⟩⟩
end
end PErrA
end PySem
namespace L2
open PySem PySem.Spec PyProof.Rows
theorem relO_A {v : V} {v' : Value} (r : RelV v v') (f : Str) : RelO (List.lookup f [(("at" : Str), v)]) (if f = "at" then some v' else none) := by
  by_cases hw : f = "at"
  · subst hw
    rw [if_pos rfl]
    have q : List.lookup ("at" : Str) [(("at" : Str), v)] = some v := by simp [List.lookup]
    rw [q]
    exact r
  · rw [if_neg hw]
    have qw : (f == ("at" : Str)) = false := by simpa using hw
    have q2 : List.lookup f [(("at" : Str), v)] = none := by simp [List.lookup, qw]
    rw [q2]
    trivial
section
variable {X : Cx} {C B fI : Addr} {cn q : Str}
/-- C(e) -/
def tMkA (C : Addr) (ta : TA) : L2.St → Hp → XK → Prop := fun σ H Q => ta σ H fun vs H1 => ∃ v, vs = [v] ∧ ∀ d, H1 d = none → Q (.ref C) (some d) (upd H1 d (.xd [(("at" : Str), v)]))
theorem pmk_A {a : Expr} {ta : TA} {p pos : Pos} {k : Nat} (T : PySem.PErrA.Txt X.K X.mg cn q C B fI) (hr : Room k X.A) (ha : PA X [a] ta) (hg : Gl X cn) (hdb : (cn == ("__debug__" : Str)) = false)
    (he : starEach (a :: []) X.env = (false, eval a X.env) :: starEach [] X.env := by rfl) (hpl : (backTo pos (starEach [] X.env)).any (·.1) = false := by rfl) :
    PMk X (.Call (.Name cn p) [a] [] pos) (tMkA C ta) := by
  intro pins s σ H Q I h
  refine wpAny_Call_Name_kw (ld_glob I hg T.base.gC ?_ hdb)
  refine PySem.W.callWith_K (h₀ := X.base) I.ok.mod.kin T.base.kC (thn (ha.run pos pins s σ H _ I h) fun us s1 hh => ?_) he hpl
  obtain ⟨vs, H1, I1, r1, v, ev, q1⟩ := hh
  subst ev
  refine ⟨I1.kIn, ?_⟩
  cases r1 with
  | cons rv rn =>
    rename_i v' us'
    cases rn
    show wpAny _ _ (call (.ref C) [v']) _ _ _
    have hlim := I1.nolimit
    obtain ⟨hp, g, dr, tk, os⟩ := s1
    refine wpAny_call (PySem.PErrA.made_ok T I1.kIn hlim (by have := hr.dp; omega) fun h' tk' e d M => ?_)
    show MkP X pins σ Q (.ref e) ⟨h', g, dr, tk', os⟩
    obtain ⟨oe, fv, hoe, hc, hd, hdat, h1⟩ := M.obj
    have hns := M.ns
    obtain ⟨G', g1, g2⟩ := restrict h' fun b => decide (b ≠ e)
    have gk : ∀ b, b ≠ e → G'.get? b = h'.get? b := fun b hb => g1 b (decide_eq_true hb)
    have ge : G'.get? e = none := g2 e (by simp)
    have old : ∀ b o, hp.get? b = some o → G'.get? b = some o := fun b o q => (gk b (Nat.ne_of_lt (Nat.lt_of_lt_of_le (Heap.lt_size q) M.new))).trans (M.keep b o q)
    have ob : ObjOk X.prog X.w (upd H1 d (.xd [(("at" : Str), v)])) G' d (.xd [(("at" : Str), v)]) :=
      ⟨_, hns.at (fun o q => (gk d M.dne).trans q), fun f => relO_A rv f⟩
    have J : Inv X pins σ (upd H1 d (.xd [(("at" : Str), v)])) ⟨G', g, dr, tk', os⟩ := I1.laid (t' := tk') old M.dbig ob
    refine ⟨e, oe, fv, ⟨G', g, dr, tk', os⟩, _, .ref C, some d, rfl, J, fun b o q => ?_, ge, hoe, ⟨hc, hd⟩, hdat, h1, ?_, rfl, I1.bare, raises_own T.base.exC T.base.tyC, q1 d (I1.hok.fresh M.dbig)⟩
    · by_cases hb : b = e
      · have q' : G'.get? b = some o := q
        rw [hb, ge] at q'; cases q'
      · exact (gk b hb).symm.trans q
    · rw [upd_ne (Ne.symm M.dne)]
      exact I1.hok.fresh M.new
/-- raise C(e) -/
def tRaiseA (C : Addr) (W : WX) (ta : TA) : TS := fun _ σ H => tMkA C ta σ H fun cls d H' => W cls d σ H'
theorem ps_raise_A {a : Expr} {ta : TA} {W : WX} {p pos pos2 : Pos} {k : Nat} (hc : X.calm = true) (T : PySem.PErrA.Txt X.K X.mg cn q C B fI) (hr : Room k X.A) (tk : Takes X W) (ha : PA X [a] ta) (hg : Gl X cn) (hdb : (cn == ("__debug__" : Str)) = false)
    (he : starEach (a :: []) X.env = (false, eval a X.env) :: starEach [] X.env := by rfl) (hpl : (backTo pos (starEach [] X.env)).any (·.1) = false := by rfl) :
    PS X (.Raise (some (.Call (.Name cn p) [a] [] pos)) none pos2) (tRaiseA C W ta) := ps_raise hc tk (pmk_A T hr ha hg hdb he hpl)
/-- e.at, e the exception that the suite holds -/
def tFldA (K : PySem.W.Frag) (mg : Str → Option Value) (a : Addr) (cls : Value) (d : Option Addr) (te : TE) : TE := fun σ H Q => te σ H fun x H1 => x = .ref a ∧ ∃ (cn q : Str) (C B fI : Addr), PySem.PErrA.Txt K mg cn q C B fI ∧ cls = .ref C ∧ ∃ (dd : Addr) (v : V), d = some dd ∧ H1 dd = some (.xd [(("at" : Str), v)]) ∧ Q v H1
theorem pe_fld_A {a : Addr} {oe : Obj} {cls : Value} {d : Option Addr} {pn : List (Addr × Obj)} {e : Expr} {te : TE} {pos : Pos} (hz : Zc cls d oe) (hf : ∃ vs, oe.data = .fields vs) (he : PE (X.suite a ((a, oe) :: pn)) e te)
    (hb : attributeBase e "at" X.env (eval e X.env) = eval e X.env := by rfl) :
    PE (X.suite a ((a, oe) :: pn)) (.Attribute e "at" pos) (tFldA X.K X.mg a cls d te) := by
  refine ⟨fun pins s σ H Q I h => ?_⟩
  refine attr_of hb (thn (he.run pins s σ H _ I h) fun u s1 hh => ?_)
  obtain ⟨x, H1, I1, rx, ex, cn, q, C, B, fI, T, ec, dd, v, ed, ea, qq⟩ := hh
  subst ex
  obtain rfl : u = Value.ref a := rx
  subst ec
  subst ed
  obtain ⟨ha, _⟩ := I1.pin (a, oe) (List.mem_append_left _ List.mem_cons_self)
  obtain ⟨vs, hd⟩ := hf
  have hx : ObjOk X.prog X.w H1 s1.heap dd (.xd [(("at" : Str), v)]) := I1.hok dd _ ea
  obtain ⟨mA, hns, hr⟩ := hx
  obtain ⟨od, ho, hl⟩ := lookIn_ns hns
  have l : List.lookup ("at" : Str) [(("at" : Str), v)] = some v := by simp [List.lookup]
  obtain ⟨u, hu, ru⟩ := RelO.some_of (v := v) (o := mA "at") (by rw [← l]; exact hr "at")
  have J : PySem.W.InstAt s1.heap a oe C (some od) := ⟨ha, hz.1, by unfold PySem.W.notCls; rw [hd] <;> rfl, by rw [hz.2]; exact ho⟩
  exact HandSPX.exc_get I1.kIn J T.base.ga T.base.gg T.base.exC (PySem.W.findObj_own T.base.hdC T.noN rfl (by rw [hl, hu])) (handed_of ru) ⟨v, H1, I1.tok _, ru, qq⟩
end
end L2

namespace PySem
namespace PErrW
open PySem.W PySem.Calls PyProof.Rows PySem.PErr
/-! ### the text of __init__(self, word): self.word = word -/
def args (p1 p2 : Pos) : Arguments := { posonlyargs := [], args := [⟨"self", none, p1⟩, ⟨"word", none, p2⟩], vararg := none, kwonlyargs := [], kw_defaults := [], kwarg := none, defaults := [] }
def body (q1 q2 q3 q4 : Pos) : List Stmt := [.Assign [.Attribute (.Name "self" q1) "word" q2] (.Name "word" q3) q4]
def scop : Scope := { kind := .function, names := [(PySem.Str.ofString "self", .local), (PySem.Str.ofString "word", .local)], isGenerator := false, isCoroutine := false, more := [] }
/-- what the written part says of the class named x at C (its base at B) and of its __init__ at fI -/
structure Txt (K : Frag) (mg : Str → Option Value) (x q : Str) (C B fI : Addr) : Prop where
  base : PySem.PErr.Cl K mg x C B
  noN : findIn K (.ref C) "word" = some none
  iC : findIn K (.ref C) "__init__" = some (some (.ref fI))
  tC : typeIn K (.ref fI) = some (.type "function")
  fn : ∃ (oc : Value) (od : Option Addr) (doc pm : Value) (an : Option Addr) (cdv ct : Value) (osl : Array (Option Value)) (p1 p2 q1 q2 q3 q4 : Pos),
    K.lookup fI = some ⟨oc, od, .func (fnOf "__init__" q (args p1 p2) (body q1 q2 q3 q4) scop .none .none doc pm an cdv ct), osl⟩ ∧ codeIn K cdv q = true
/-- what __init__ leaves of a fresh exception at x -/
structure InitEnd (h h' : Heap) (x C dx t1 : Addr) (v : Value) : Prop where
  keep : ∀ b o, b ≠ x → h.get? b = some o → h'.get? b = some o
  obj : h'.get? x = some { cls := .ref C, dict := some dx, data := .fields #[.ref t1, .none, .none, .none, .bool false, .none] }
  dbig : h.objs.size ≤ dx
  dne : dx ≠ x
  ns : h'.Ns1 dx (fun y => if y = "word" then some v else none)
structure OwnMade (h h' : Heap) (e C d : Addr) (v : Value) : Prop where
  keep : ∀ b o, h.get? b = some o → h'.get? b = some o
  new : h.objs.size ≤ e
  obj : ∃ oe vs, h'.get? e = some oe ∧ oe.cls = .ref C ∧ oe.dict = some d ∧ oe.data = .fields vs ∧ vs[1]? = some .none
  dbig : h.objs.size ≤ d
  dne : d ≠ e
  ns : h'.Ns1 d (fun y => if y = "word" then some v else none)
section
variable {prog : Program} {w : World} {A : Around} {E : Value → Shared → Prop} {R : Result → Shared → Prop} {s : Shared} {K : Frag} {mg : Str → Option Value} {C B fI : Addr} {cn q : Str}
theorem init_ok (T : Txt K mg cn q C B fI) {x t0 : Addr} {v : Value} {args : Args} (hba : ∀ (p1 p2 q1 q2 q3 q4 : Pos) (doc pm : Value) (an : Option Addr) (cdv ct : Value) (s : Shared), BindsTo s (fnOf "__init__" q (PErrW.args p1 p2) (body q1 q2 q3 q4) scop .none .none doc pm an cdv ct) args [("self", .ref x), ("word", v)]) (X : K.In s.heap) (hlim : s.heap.NoLimit) (hx : s.heap.get? x = some (HandSPX.excO C t0)) (hroom : A.depth < recursionLimit)
    (hq : ∀ h' tk dx, InitEnd s.heap h' x C dx t0 v → R (.ok (.ret .none)) { s with heap := h', toks := tk }) :
    codeAny (model prog w) A (.call (.ref fI) args) R s := by
  obtain ⟨oc, od, doc, pm, an, cdv, ct, osl, p1, p2, q1, q2, q3, q4, ho, hcd⟩ := T.fn
  obtain ⟨nm, qq, N, bs, sn, sub, ab, col, dd, k0, k1, k2, k3, k5, hC⟩ := T.base.cls
  have hcl : clsIn K C = some { name := nm, bases := bs, mro := mroE C B, ns := N, qualname := qq, hasDict := true, slotNames := sn, subclasses := sub, abstract := ab, collection := col, hasDel := false } := by unfold clsIn; rw [hC] <;> rfl
  refine Att.call_fn (binds := [("self", .ref x), ("word", v)]) X hlim ho hcd hroom (hba p1 p2 q1 q2 q3 q4 doc pm an cdv ct s) (by first | rfl | decide | with_unfolding_all rfl) (fun s₁ IC => ?_) rfl rfl rfl
  obtain ⟨h₁, tk₁, rfl⟩ := IC.toInCall.same
  have k : ∀ b o, s.heap.get? b = some o → h₁.get? b = some o := IC.toInCall.keep
  have hn := IC.toInCall.ns
  have X₁ : K.In h₁ := X.keeps k
  have hx₁ := k _ _ hx
  show wpAny _ _ (execs _ _) _ _ _
  refine wpAny_execs_cons (plainObj_wpAny_Assign_Attribute ?_)
  refine PErr.ldC (v := v) hn (by first | rfl | with_unfolding_all rfl | kernel_rfl) (PErr.ldC (v := .ref x) hn (by first | rfl | with_unfolding_all rfl | kernel_rfl) ?_)
  refine set_plain X₁ (ox := HandSPX.excO C t0) (od := none) ⟨hx₁, rfl, rfl, trivial⟩ T.base.sa ?_
  refine PErr.osa X₁ hx₁ hcl rfl rfl T.noN (fun h₃ tk₃ dx k₃ dn dne hx₃ hn₃ => ?_)
  show wpAny _ _ (execs _ _) _ _ _
  have z : s.heap.objs.size < h₁.objs.size := hn.lt
  exact wpAny_execs_nil (hq h₃ tk₃ dx ⟨fun b o hb e => k₃ b o hb (k b o e), hx₃, Nat.le_of_lt (Nat.lt_of_lt_of_le z dn), dne, hn₃⟩)
theorem made_ok (T : Txt K mg cn q C B fI) {v : Value} (X : K.In s.heap) (hlim : s.heap.NoLimit) (hroom : A.depth + 1 < recursionLimit)
    (hq : ∀ h' tk e d, OwnMade s.heap h' e C d v → R (.ok (.ret (.ref e))) { s with heap := h', toks := tk }) :
    codeAny (model prog w) A (.call (.ref C) ⟨[v], []⟩) R s := by
  obtain ⟨nm, qq, N, bs, sn, sub, ab, col, dd, k0, k1, k2, k3, k5, hC⟩ := T.base.cls
  obtain ⟨hp, g, dr, tk, os⟩ := s
  have k : ∀ b o, hp.get? b = some o → ((hp.push (kdv_tup [v])).push (HandSPX.excO C hp.objs.size)).get? b = some o := fun b o e => Heap.get?_push_of_some _ (Heap.get?_push_of_some _ e)
  have hget : ((hp.push (kdv_tup [v])).push (HandSPX.excO C hp.objs.size)).get? (hp.objs.size + 1) = some (HandSPX.excO C hp.objs.size) := by heap_get
  refine HandSPX.call_own F.excBase_Exception (fun X => PErr.tail_has B X) (X _ _ hC) (looks_findIn X T.iC) (fun self => bind_fn X self T.tC) (PErr.one_size v) ?_
  refine init_ok (s := ⟨(hp.push (kdv_tup [v])).push (HandSPX.excO C hp.objs.size), g, dr, tk, os⟩) T (v := v) (fun _ _ _ _ _ _ _ _ _ _ _ _ => BindsTo.of_eq (by first | rfl | with_unfolding_all rfl)) (X.keeps k) (hlim.keeps k) hget ?_ fun h' tk' dx ⟨k', hx, dn, dne, hns⟩ => ?_
  · show A.depth + 1 < recursionLimit
    exact hroom
  · have old : ∀ b o, hp.get? b = some o → h'.get? b = some o := fun b o e => k' b o (Nat.ne_of_lt (Nat.lt_succ_of_lt (Heap.lt_size e))) (k b o e)
    have z : hp.objs.size + 1 + 1 ≤ dx := by
      first
        | (simpa only [Heap.size_push] using dn)
        | exact dn
        | (have q := dn; rw [Heap.size_push, Heap.size_push] at q; exact q)
    exact ⟨rfl, hq h' tk' (hp.objs.size + 1) dx ⟨old, Nat.le_succ _, ⟨_, _, hx, rfl, rfl, rfl, rfl⟩, Nat.le_trans (Nat.le_trans (Nat.le_succ _) (Nat.le_succ _)) z, dne, hns⟩⟩
end
end PErrW
end PySem
namespace L2
open PySem PySem.Spec PyProof.Rows
theorem relO_W {v : V} {v' : Value} (r : RelV v v') (f : Str) : RelO (List.lookup f [(("word" : Str), v)]) (if f = "word" then some v' else none) := by
  by_cases hw : f = "word"
  · subst hw
    rw [if_pos rfl]
    have q : List.lookup ("word" : Str) [(("word" : Str), v)] = some v := by simp [List.lookup]
    rw [q]
    exact r
  · rw [if_neg hw]
    have qw : (f == ("word" : Str)) = false := by simpa using hw
    have q2 : List.lookup f [(("word" : Str), v)] = none := by simp [List.lookup, qw]
    rw [q2]
    trivial
section
variable {X : Cx} {C B fI : Addr} {cn q : Str}
/-- C(e) -/
def tMkW (C : Addr) (ta : TA) : L2.St → Hp → XK → Prop := fun σ H Q => ta σ H fun vs H1 => ∃ v, vs = [v] ∧ ∀ d, H1 d = none → Q (.ref C) (some d) (upd H1 d (.xd [(("word" : Str), v)]))
theorem pmk_W {a : Expr} {ta : TA} {p pos : Pos} {k : Nat} (T : PySem.PErrW.Txt X.K X.mg cn q C B fI) (hr : Room k X.A) (ha : PA X [a] ta) (hg : Gl X cn) (hdb : (cn == ("__debug__" : Str)) = false)
    (he : starEach (a :: []) X.env = (false, eval a X.env) :: starEach [] X.env := by rfl) (hpl : (backTo pos (starEach [] X.env)).any (·.1) = false := by rfl) :
    PMk X (.Call (.Name cn p) [a] [] pos) (tMkW C ta) := by
  intro pins s σ H Q I h
  refine wpAny_Call_Name_kw (ld_glob I hg T.base.gC ?_ hdb)
  refine PySem.W.callWith_K (h₀ := X.base) I.ok.mod.kin T.base.kC (thn (ha.run pos pins s σ H _ I h) fun us s1 hh => ?_) he hpl
  obtain ⟨vs, H1, I1, r1, v, ev, q1⟩ := hh
  subst ev
  refine ⟨I1.kIn, ?_⟩
  cases r1 with
  | cons rv rn =>
    rename_i v' us'
    cases rn
    show wpAny _ _ (call (.ref C) [v']) _ _ _
    have hlim := I1.nolimit
    obtain ⟨hp, g, dr, tk, os⟩ := s1
    refine wpAny_call (PySem.PErrW.made_ok T I1.kIn hlim (by have := hr.dp; omega) fun h' tk' e d M => ?_)
    show MkP X pins σ Q (.ref e) ⟨h', g, dr, tk', os⟩
    obtain ⟨oe, fv, hoe, hc, hd, hdat, h1⟩ := M.obj
    have hns := M.ns
    obtain ⟨G', g1, g2⟩ := restrict h' fun b => decide (b ≠ e)
    have gk : ∀ b, b ≠ e → G'.get? b = h'.get? b := fun b hb => g1 b (decide_eq_true hb)
    have ge : G'.get? e = none := g2 e (by simp)
    have old : ∀ b o, hp.get? b = some o → G'.get? b = some o := fun b o q => (gk b (Nat.ne_of_lt (Nat.lt_of_lt_of_le (Heap.lt_size q) M.new))).trans (M.keep b o q)
    have ob : ObjOk X.prog X.w (upd H1 d (.xd [(("word" : Str), v)])) G' d (.xd [(("word" : Str), v)]) :=
      ⟨_, hns.at (fun o q => (gk d M.dne).trans q), fun f => relO_W rv f⟩
    have J : Inv X pins σ (upd H1 d (.xd [(("word" : Str), v)])) ⟨G', g, dr, tk', os⟩ := I1.laid (t' := tk') old M.dbig ob
    refine ⟨e, oe, fv, ⟨G', g, dr, tk', os⟩, _, .ref C, some d, rfl, J, fun b o q => ?_, ge, hoe, ⟨hc, hd⟩, hdat, h1, ?_, rfl, I1.bare, raises_own T.base.exC T.base.tyC, q1 d (I1.hok.fresh M.dbig)⟩
    · by_cases hb : b = e
      · have q' : G'.get? b = some o := q
        rw [hb, ge] at q'; cases q'
      · exact (gk b hb).symm.trans q
    · rw [upd_ne (Ne.symm M.dne)]
      exact I1.hok.fresh M.new
/-- raise C(e) -/
def tRaiseW (C : Addr) (W : WX) (ta : TA) : TS := fun _ σ H => tMkW C ta σ H fun cls d H' => W cls d σ H'
theorem ps_raise_W {a : Expr} {ta : TA} {W : WX} {p pos pos2 : Pos} {k : Nat} (hc : X.calm = true) (T : PySem.PErrW.Txt X.K X.mg cn q C B fI) (hr : Room k X.A) (tk : Takes X W) (ha : PA X [a] ta) (hg : Gl X cn) (hdb : (cn == ("__debug__" : Str)) = false)
    (he : starEach (a :: []) X.env = (false, eval a X.env) :: starEach [] X.env := by rfl) (hpl : (backTo pos (starEach [] X.env)).any (·.1) = false := by rfl) :
    PS X (.Raise (some (.Call (.Name cn p) [a] [] pos)) none pos2) (tRaiseW C W ta) := ps_raise hc tk (pmk_W T hr ha hg hdb he hpl)
/-- e.word, e the exception that the suite holds -/
def tFldW (K : PySem.W.Frag) (mg : Str → Option Value) (a : Addr) (cls : Value) (d : Option Addr) (te : TE) : TE := fun σ H Q => te σ H fun x H1 => x = .ref a ∧ ∃ (cn q : Str) (C B fI : Addr), PySem.PErrW.Txt K mg cn q C B fI ∧ cls = .ref C ∧ ∃ (dd : Addr) (v : V), d = some dd ∧ H1 dd = some (.xd [(("word" : Str), v)]) ∧ Q v H1
theorem pe_fld_W {a : Addr} {oe : Obj} {cls : Value} {d : Option Addr} {pn : List (Addr × Obj)} {e : Expr} {te : TE} {pos : Pos} (hz : Zc cls d oe) (hf : ∃ vs, oe.data = .fields vs) (he : PE (X.suite a ((a, oe) :: pn)) e te)
    (hb : attributeBase e "word" X.env (eval e X.env) = eval e X.env := by rfl) :
    PE (X.suite a ((a, oe) :: pn)) (.Attribute e "word" pos) (tFldW X.K X.mg a cls d te) := by
  refine ⟨fun pins s σ H Q I h => ?_⟩
  refine attr_of hb (thn (he.run pins s σ H _ I h) fun u s1 hh => ?_)
  obtain ⟨x, H1, I1, rx, ex, cn, q, C, B, fI, T, ec, dd, v, ed, ea, qq⟩ := hh
  subst ex
  obtain rfl : u = Value.ref a := rx
  subst ec
  subst ed
  obtain ⟨ha, _⟩ := I1.pin (a, oe) (List.mem_append_left _ List.mem_cons_self)
  obtain ⟨vs, hd⟩ := hf
  have hx : ObjOk X.prog X.w H1 s1.heap dd (.xd [(("word" : Str), v)]) := I1.hok dd _ ea
  obtain ⟨mA, hns, hr⟩ := hx
  obtain ⟨od, ho, hl⟩ := lookIn_ns hns
  have l : List.lookup ("word" : Str) [(("word" : Str), v)] = some v := by simp [List.lookup]
  obtain ⟨u, hu, ru⟩ := RelO.some_of (v := v) (o := mA "word") (by rw [← l]; exact hr "word")
  have J : PySem.W.InstAt s1.heap a oe C (some od) := ⟨ha, hz.1, by unfold PySem.W.notCls; rw [hd] <;> rfl, by rw [hz.2]; exact ho⟩
  exact HandSPX.exc_get I1.kIn J T.base.ga T.base.gg T.base.exC (PySem.W.findObj_own T.base.hdC T.noN rfl (by rw [hl, hu])) (handed_of ru) ⟨v, H1, I1.tok _, ru, qq⟩
end
end L2

/-! try .. except A as e: .. except B: .. : several clauses, each with or without a name. -/
namespace L2
open PySem PySem.Spec PyProof.Rows
/-- a suite of a clause: what it wishes, the exception at a; oi: the slot of its name -/
abbrev Suit := Addr → Value → Option Addr → TS
def atSuite (oi : Option Nat) (ts : Suit) (a : Addr) (cls : Value) (d : Option Addr) (D : Ends) (σ : L2.St) (H : Hp) : Prop := match oi with
  | none => ts a cls d D σ H
  | some i => ts a cls d { nx := fun s1 h1 => D.nx (s1.set i none) h1, rt := D.rt, bk := fun s1 h1 => D.bk (s1.set i none) h1, ct := fun s1 h1 => D.ct (s1.set i none) h1 } (σ.set i (some (.ref a))) H
def wHd (K : PySem.W.Frag) (Wo : WX) (D : Ends) : List (Value × Option Nat × Suit) → WX
  | [] => Wo
  | (c, oi, ts) :: r => fun cls d σ H => ∃ b, PySem.W.exmOne K cls c = some b ∧ (b = true → ∀ a, H a = none → atSuite oi ts a cls d D σ H) ∧ (b = false → wHd K Wo D r cls d σ H)
inductive Hds (X : Cx) : List ExceptHandler → List (Value × Option Nat × Suit) → Prop
  | nil : Hds X [] []
  | bare {x : Str} {c : Value} {ts : Suit} {b₀ : Stmt} {suite : List Stmt} {np pp : Pos} {hds : List ExceptHandler} {l : List (Value × Option Nat × Suit)} (hc : Names X x c)
      (hsu : ∀ (a : Addr) (oe : Obj) (cls : Value) (d : Option Addr) (pn : List (Addr × Obj)), Zc cls d oe → (∃ vs, oe.data = .fields vs) → PSs (X.suite a ((a, oe) :: pn)) (b₀ :: suite) (ts a cls d)) (r : Hds X hds l) :
      Hds X (.ExceptHandler (some (.Name x np)) none (b₀ :: suite) pp :: hds) ((c, none, ts) :: l)
  | named {x n : Str} {c : Value} {i : Nat} {ts : Suit} {b₀ : Stmt} {suite : List Stmt} {np pp : Pos} {hds : List ExceptHandler} {l : List (Value × Option Nat × Suit)} (hc : Names X x c) (hi : X.N[i]? = some n) (hl : X.env.kindOf n = some .local)
      (hsu : ∀ (a : Addr) (oe : Obj) (cls : Value) (d : Option Addr) (pn : List (Addr × Obj)), Zc cls d oe → (∃ vs, oe.data = .fields vs) → PSs (X.suite a ((a, oe) :: pn)) (b₀ :: suite) (ts a cls d)) (r : Hds X hds l) :
      Hds X (.ExceptHandler (some (.Name x np)) (some n) (b₀ :: suite) pp :: hds) ((c, some i, ts) :: l)
section
variable {X : Cx} {body : List Stmt} {h₀ : ExceptHandler} {hds : List ExceptHandler} {l : List (Value × Option Nat × Suit)} {pos : Pos} {tb : WX → TS} {Wo : WX}
theorem ps_try_hd (hs : X.stack = X.env :: X.outer) (hf : X.env.frame = some X.env.locals) (hN : X.N.Nodup) (tk : Takes X Wo)
    (hb : ∀ (W : WX) (pn : List (Addr × Obj)) (xe : Value → Shared → Prop), Takes (X.tr pn xe) W → PassesOwn (model X.prog X.w) X.A X.env xe → PSs (X.tr pn xe) body (tb W))
    (hh : Hds X (h₀ :: hds) l) : PS X (.Try body (h₀ :: hds) [] [] pos) (fun D σ H => tb (wHd X.K Wo D l) D σ H) := by
  refine ⟨fun pins s σ H D I h => ?_⟩
  have ok := I.ok
  have hfr : X.A.frames = some (X.env :: X.outer) := by rw [ok.frames, hs]
  refine wpAny_Try_except ?_
  refine wpAny_mono ((hb (wHd X.K Wo D l) (X.pn ++ pins) (fun e t₁ => wpAny (model X.prog X.w) X.A (noteFrame e X.env) (fun _ t₂ => wpAny (model X.prog X.w) X.A (setFlight e none) (fun _ t₃ =>
    wpAny (model X.prog X.w) X.A (handleBy e X.env (h₀ :: hds)) (SP X pins D) X.xe t₃) X.xe t₂) X.xe t₁) (fun u s' xx => ?_) PassesOwn.looking).run [] s σ H D (I.toTry _) h) (fun f s1 hsp => ?_) (fun e s1 he => he)
  · obtain ⟨a, B, sI, pins', σ', H', cls, d, rfl, J', nb, up, sky, na, os, ag, w⟩ := xx
    have J : Inv X pins σ' H' sI := J'.ofTry ok
    rw [hs] at sky
    show wpAny (model X.prog X.w) X.A (noteFrame (.ref a) X.env) _ _ _
    refine Sky.land Zc.steady hfr hf sky fun h3 fl3 up3 => ?_
    have J3 : Inv X pins σ' H' { s' with heap := h3 } := J.landed nb fl3.1 (up.trans up3) os ag
    obtain ⟨oe3, vs3, he3, hz3, hd3⟩ := fl3.there
    have nfr : a ∉ frs (X.env :: X.outer) := fun hm => by
      obtain ⟨_, o', e', hnf⟩ := fl3.2.2.1.mem hm
      rw [he3] at e'
      cases e'
      exact hnf _ hd3
    have nL : a ≠ X.env.locals := fun z => nfr (List.mem_filterMap.mpr ⟨X.env, List.mem_cons_self, by rw [hf, z]⟩)
    have nF : a ∉ X.fs := fun hm => by
      obtain ⟨e, he, q⟩ := List.mem_filterMap.mp hm
      exact nfr (List.mem_filterMap.mpr ⟨e, List.mem_cons_of_mem _ he, q⟩)
    have S3 := J3.suite he3 hd3 na nL nF
    have LT : PySem.W.Looks (model X.prog X.w) h3 (typeOf (.ref a)) cls := fun A Q E s k q => wpAny_typeOf_ref (k _ _ he3) (by rw [hz3.1]; exact q)
    have tst : ∀ {x : Str} {c : Value} {np : Pos} {Q : Value → Shared → Prop} {E : Value → Shared → Prop}, Names X x c → Q c { s' with heap := h3 } → wpAny (model X.prog X.w) (X.A.mark (some (.ref a))) (eval (.Name x np) X.env) Q E { s' with heap := h3 } := fun {x c np Q E} hc q => by
      obtain ⟨hg, hdbg, hm | ⟨hm, hv, hnn⟩⟩ := hc
      · exact ld_glob (X := X.suite a ((a, oe3) :: (X.pn ++ pins))) S3 hg hm q hdbg
      · exact ld_blt (X := X.suite a ((a, oe3) :: (X.pn ++ pins))) S3 hg hm hv q hnn hdbg
    have go : ∀ {hd2 : List ExceptHandler} {l2 : List (Value × Option Nat × Suit)}, Hds X hd2 l2 → wHd X.K Wo D l2 cls d σ' H' → wpAny (model X.prog X.w) X.A (handleBy (.ref a) X.env hd2) (SP X pins D) X.xe { s' with heap := h3 } := by
      intro hd2 l2 hk
      induction hk with
      | nil =>
        intro w
        refine wpAny_handleBy_nil ?_
        obtain ⟨k1, k2, k3, oe, vs, T, oT, tr, he, hz, hd, h1, hr⟩ := id fl3
        unfold PySem.passOn
        refine wpAny_bind (wpAny_field he hd h1 ?_)
        rw [if_neg (show ¬ ((Value.ref T == Value.none) = true) from by simp)]
        have fin : wpAny (model X.prog X.w) X.A (setFlight (.ref a) X.env.frame) (fun _ s4 => wpAny (model X.prog X.w) X.A (throw (.ref a) : Sem Flow) (SP X pins D) X.xe s4) X.xe { s' with heap := h3 } := by
          rw [hf]
          refine HandSPX.setFlight_upZ fl3 fun h4 hh4 up4 => wpAny_throw (tk _ _ ?_)
          exact ⟨a, B, sI, pins, σ', H', cls, d, rfl, J, nb, (up.trans up3).trans up4, .inr (.inr (by rw [hs]; exact hh4)), na, os, ag, w⟩
        first | exact wpAny_bind (wpAny_pure (wpAny_bind fin)) | exact wpAny_bind fin
      | @bare x c ts b₀ suite np pp hds2 l2 hc hsu r ih =>
        intro w
        obtain ⟨b, hb1, hyes, hno⟩ := w
        have LM := PySem.W.exm_one (M := model X.prog X.w) (J3.kIn) LT hb1
        refine wpAny_handleBy_cons (codeAny_handlers_test (tst hc (LM.here ?_))) (by intro q; cases q)
        cases b with
        | false =>
          show wpAny _ X.A (handleBy (.ref a) X.env hds2) _ _ _
          exact ih (hno rfl)
        | true =>
          refine codeAny_handlers_suite (HandSPX.lands_againZ fl3 fun h4 fl4 up4 => ?_)
          have J4 : Inv X pins σ' H' { s' with heap := h4 } := J.landed nb fl4.1 ((up.trans up3).trans up4) os ag
          obtain ⟨oe4, vs4, he4, hz4, hd4⟩ := fl4.there
          refine wpAny_mono ((hsu a oe4 cls d (X.pn ++ pins) hz4 ⟨_, hd4⟩).run [] _ _ H' _ (J4.suite he4 hd4 na nL nF) (hyes rfl a na)) (fun f s6 hsp => ?_) (fun _ _ z => False.elim z)
          cases f with
          | ret u =>
            obtain ⟨v6, σ6, H6, S6, r6, q6⟩ := hsp
            exact ⟨_, _, _, S6.unsuite ok, r6, q6⟩
          | next => obtain ⟨σ6, H6, S6, q6⟩ := hsp; exact ⟨_, _, S6.unsuite ok, q6⟩
          | brk => obtain ⟨σ6, H6, S6, q6⟩ := hsp; exact ⟨_, _, S6.unsuite ok, q6⟩
          | cont => obtain ⟨σ6, H6, S6, q6⟩ := hsp; exact ⟨_, _, S6.unsuite ok, q6⟩
      | @named x n c i ts b₀ suite np pp hds2 l2 hc hi hln hsu r ih =>
        intro w
        obtain ⟨b, hb1, hyes, hno⟩ := w
        have LM := PySem.W.exm_one (M := model X.prog X.w) (J3.kIn) LT hb1
        refine wpAny_handleBy_cons (codeAny_handlers_test (tst hc (LM.here ?_))) (by intro q; cases q)
        cases b with
        | false =>
          show wpAny _ X.A (handleBy (.ref a) X.env hds2) _ _ _
          exact ih (hno rfl)
        | true =>
          refine codeAny_handlers_suite_as (HandSPX.lands_againZ fl3 fun h4 fl4 up4 => ?_)
          have J4 : Inv X pins σ' H' { s' with heap := h4 } := J.landed nb fl4.1 ((up.trans up3).trans up4) os ag
          obtain ⟨oe4, vs4, he4, hz4, hd4⟩ := fl4.there
          refine store_ok (X := X.suite a ((a, oe4) :: (X.pn ++ pins))) (v := .ref a) (J4.suite he4 hd4 na nL nF) hN hi (.inl hln) rfl (fun s5 S5 => ?_) (.inr hln)
          refine wpAny_mono ((hsu a oe4 cls d (X.pn ++ pins) hz4 ⟨_, hd4⟩).run [] s5 _ H' _ S5 (hyes rfl a na)) (fun f s6 hsp => ?_) (fun _ _ z => False.elim z)
          have gone : ∀ {σ6 : L2.St} {H6 : Hp} {Q : Shared → Prop}, Inv (X.suite a ((a, oe4) :: (X.pn ++ pins))) [] σ6 H6 s6 → (∀ s7, Inv X pins (σ6.set i none) H6 s7 → Q s7) →
              wpAny (model X.prog X.w) X.A (do bindName X.env n .none; unbindBehindTheSuite X.env n pp) (fun _ s7 => Q s7) X.xe s6 := fun {σ6 H6 Q} S6 hq => gone_ok (S6.unsuite ok) hN hi hln hq
          cases f with
          | ret u =>
            obtain ⟨v6, σ6, H6, S6, r6, q6⟩ := hsp
            exact gone S6 fun s7 J7 => ⟨_, _, _, J7, r6, q6⟩
          | next => obtain ⟨σ6, H6, S6, q6⟩ := hsp; exact gone S6 fun s7 J7 => ⟨_, _, J7, q6⟩
          | brk => obtain ⟨σ6, H6, S6, q6⟩ := hsp; exact gone S6 fun s7 J7 => ⟨_, _, J7, q6⟩
          | cont => obtain ⟨σ6, H6, S6, q6⟩ := hsp; exact gone S6 fun s7 J7 => ⟨_, _, J7, q6⟩
    exact go hh w
  · cases f with
    | ret u =>
      obtain ⟨v, σ', H', J', r, q⟩ := hsp
      exact ⟨v, σ', H', J'.ofTry ok, r, q⟩
    | next => obtain ⟨σ', H', J', q⟩ := hsp; exact wpAny_execs_nil ⟨σ', H', J'.ofTry ok, q⟩
    | brk => obtain ⟨σ', H', J', q⟩ := hsp; exact ⟨σ', H', J'.ofTry ok, q⟩
    | cont => obtain ⟨σ', H', J', q⟩ := hsp; exact ⟨σ', H', J'.ofTry ok, q⟩
end
end L2

namespace PySem
namespace PErr
open PySem.W PySem.Calls PyProof.Rows
section
variable {prog : Program} {w : World} {M : Model} {A : Around} {E : Value → Shared → Prop} {R : Result → Shared → Prop} {h : Heap} {g : Array GenState} {d : Drawn} {t : Nat} {os : OsState}
variable {nm q : Str} {C B N : Addr} {bs : List Value} {sn : List Str} {sub : List Value} {ab : Bool} {col : Option Bool} {dd : Option Addr} {k0 k1 k2 k3 k5 : Option Value} {kw : List (Str × Value)}
theorem contB (C B : Addr) (X : String) : (Value.ref C :: .ref B :: tailE).contains (.type X) = tailE.contains (.type X) := by
  rw [List.contains_cons, tail_has]; rfl
abbrev clsO (nm q : Str) (C B N : Addr) (bs : List Value) (sn : List Str) (sub : List Value) (ab : Bool) (col : Option Bool) (dd : Option Addr) (k0 k1 k2 k3 k5 : Option Value) : Obj := excClassObj nm q C N bs (.ref B :: tailE) true sn sub ab col dd k0 k1 k2 k3 k5 "Exception.__new__"
theorem check_kw {Q : Unit → Shared → Prop} (hC : h.get? C = some (clsO nm q C B N bs sn sub ab col dd k0 k1 k2 k3 k5)) (hq : Q () ⟨h, g, d, t, os⟩) :
    wpAny M A (checkBuiltinCall "Exception.__new__" ⟨[.ref C], kw⟩) Q E ⟨h, g, d, t, os⟩ := by
  have FB := F.excBase_Exception
  have star := FB.noStar
  have hc : (Value.ref C :: .ref B :: tailE).contains (.type "Exception") = true := by rw [contB]; decide +kernel
  simp only [checkBuiltinCall, FB.newKind, FB.newSplit, FB.newRow]
  repeat (first
    | refine wpAny_loadPart_at hC ?_
    | (refine wpAny_isSubtype_exc hC ?_; rw [hc])
    | refine wpAny_staticBase_exc hC ?_
    | refine wpAny_madeBy_exc hC ?_
    | simp only [bne_self_eq_false, Bool.false_eq_true, if_false]
    | wp_step)
  exact hq
theorem new_kw (hC : h.get? C = some (clsO nm q C B N bs sn sub ab col dd k0 k1 k2 k3 k5))
    (hq : R (.ok (.ret (.ref (h.objs.size + 1)))) ⟨(h.push (kdv_tup [])).push (HandSPX.excO C h.objs.size), g, d, t, os⟩) :
    codeAny (model prog w) A (.builtin "Exception.__new__" ⟨[.ref C], kw⟩) R ⟨h, g, d, t, os⟩ := by
  have FB := F.excBase_Exception
  have ends := FB.ends
  have hc : (Value.ref C :: .ref B :: tailE).contains (.type "Exception") = true := by rw [contB]; decide +kernel
  have hcA : (Value.ref C :: .ref B :: tailE).contains (.type "AttributeError") = false := by rw [contB]; decide +kernel
  have hcN : (Value.ref C :: .ref B :: tailE).contains (.type "NameError") = false := by rw [contB]; decide +kernel
  refine codeAny_builtinAt FB.entry ?_
  unfold Builtin.«BaseException.__new__»
  refine wpAt_bind ?_
  show wpAt _ _ _ (stack >>= _) _ _ _
  refine wpAt_bind (wpAt_stack fun p below => wpAt_of_wpAny ?_)
  wp_walk
  refine wpAt_of_wpAny ?_
  rw [FB.owner]
  repeat (first
    | with_reducible refine wpAny_madeHere_exc FB.canon hC ?_
    | with_reducible refine wpAny_loadPart_at hC ?_
    | (with_reducible refine wpAny_isSubtype_exc hC ?_; first | rw [hc] | rw [hcA] | rw [hcN])
    | wp_step)
  show R _ _
  rw [Heap.size_push]
  exact hq
theorem type_kw {fI : Addr} {Q : Fin → Shared → Prop}
    (hC : h.get? C = some (clsO nm q C B N bs sn sub ab col dd k0 k1 k2 k3 k5))
    (hi : W.Looks (model prog w) h (typeLookup (.ref C) "__init__") (some (.ref fI))) (hb : ∀ self, W.Looks (model prog w) h (bindSpecial (.ref fI) self) (.ref fI, [self]))
    (hq : codeAny (model prog w) A (.call (.ref fI) ⟨[.ref (h.objs.size + 1)], kw⟩)
      (fun r s' => match r with | .ok (.ret v) => v = .none ∧ Q (.done (.ret (.ref (h.objs.size + 1)))) s' | .ok _ => False | .error e => E e s')
      ⟨(h.push (kdv_tup [])).push (HandSPX.excO C h.objs.size), g, d, t, os⟩) :
    wpAny (model prog w) A (Builtin.«type.__call__» ⟨[.ref C], kw⟩) Q E ⟨h, g, d, t, os⟩ := by
  have FB := F.excBase_Exception
  repeat (first | with_reducible refine wpAny_loadPart_at hC ?_ | with_reducible refine wpAny_madeBy_exc hC ?_ | wp_step)
  refine codeAny_call_builtin_code (Code.quiet_builtin _ FB.quiet) (check_kw hC ?_)
  refine new_kw hC ?_
  show wpAny _ _ _ _ _ _
  have k : ∀ b o, h.get? b = some o → ((h.push (kdv_tup [])).push (HandSPX.excO C h.objs.size)).get? b = some o := fun b o e => Heap.get?_push_of_some _ (Heap.get?_push_of_some _ e)
  have hC₁ := k _ _ hC
  have hget : ((h.push (kdv_tup [])).push (HandSPX.excO C h.objs.size)).get? (h.objs.size + 1) = some (HandSPX.excO C h.objs.size) := by heap_get
  have hcC : (Value.ref C :: .ref B :: tailE).contains (.ref C) = true := by simp
  have i1 := hi.keeps k
  have b1 := (hb (.ref (h.objs.size + 1))).keeps k
  unfold isInstance
  repeat (first | with_reducible refine wpAny_loadPart_at hget ?_ | (with_reducible refine wpAny_isSubtype_exc hC₁ ?_; rw [hcC]) | wp_step)
  show wpAny _ _ (typeLookup (.ref C) _) _ _ _
  refine i1.at (wpAny_holding (wpAny_bind (b1.at (wpAny_bind (wpAny_call (codeAny_mono hq fun r s' z => ?_))))))
  rcases r with e | (v | _ | _ | _) <;> first | exact z | exact z.elim | skip
  obtain ⟨rfl, z⟩ := z
  first
    | exact wpAny_pure (wpAny_pure z)
    | (wp_walk; exact z)
theorem call_kw {fI : Addr}
    (hC : h.get? C = some (clsO nm q C B N bs sn sub ab col dd k0 k1 k2 k3 k5))
    (hi : W.Looks (model prog w) h (typeLookup (.ref C) "__init__") (some (.ref fI))) (hb : ∀ self, W.Looks (model prog w) h (bindSpecial (.ref fI) self) (.ref fI, [self]))
    (hq : codeAny (model prog w) (A.under (.builtin "type.__call__" ⟨[.ref C], kw⟩)) (.call (.ref fI) ⟨[.ref (h.objs.size + 1)], kw⟩) (W.InitBack (h.objs.size + 1) R)
      ⟨(h.push (kdv_tup [])).push (HandSPX.excO C h.objs.size), g, d, t, os⟩) :
    codeAny (model prog w) A (.call (.ref C) ⟨[], kw⟩) R ⟨h, g, d, t, os⟩ := by
  have f1 := tc_lookup
  have f2 := tc_bind (.ref C)
  have hTy : (⟨h, g, d, t, os⟩ : Shared).TypeIs (.ref C) "type" := ⟨_, hC, rfl⟩
  refine codeAny_of_tree ?_
  show wpAny _ _ (callAny (.ref C) _) _ _ _
  repeat (any_goals (first | assumption | with_reducible refine wpAny_loadPart_at hC ?_ | wp_step))
  refine ⟨rfl, ?_⟩
  refine codeAny_call_builtin_at (Code.quiet_builtin _ (by decide +kernel)) entry_typeCall (wpAny_check_type_call_sub hC (type_kw hC hi hb ?_))
  exact codeAny_mono hq fun r s' z => by rcases r with e | (v | _ | _ | _) <;> exact z
end
end PErr
end PySem

/-! C(at=e).at, C one of the errors. -/

namespace PySem
namespace PErrA
open PySem.W PySem.Calls PyProof.Rows PySem.PErr
section
variable {prog : Program} {w : World} {A : Around} {R : Result → Shared → Prop} {s : Shared} {K : Frag} {mg : Str → Option Value} {C B fI : Addr} {cn q : Str}
theorem made_kw (T : Txt K mg cn q C B fI) {v : Value} (X : K.In s.heap) (hlim : s.heap.NoLimit) (hroom : A.depth + 1 < recursionLimit)
    (hq : ∀ h' tk e d, OwnMade s.heap h' e C d v → R (.ok (.ret (.ref e))) { s with heap := h', toks := tk }) : codeAny (model prog w) A (.call (.ref C) ⟨[], [("at", v)]⟩) R s := by
  obtain ⟨nm, qq, N, bs, sn, sub, ab, col, dd, k0, k1, k2, k3, k5, hC⟩ := T.base.cls
  obtain ⟨hp, g, dr, tk, os⟩ := s
  have kk : ∀ b o, hp.get? b = some o → ((hp.push (kdv_tup [])).push (HandSPX.excO C hp.objs.size)).get? b = some o := fun b o e => Heap.get?_push_of_some _ (Heap.get?_push_of_some _ e)
  have at1 : ((hp.push (kdv_tup [])).push (HandSPX.excO C hp.objs.size)).get? (hp.objs.size + 1) = some (HandSPX.excO C hp.objs.size) := by heap_get
  refine PErr.call_kw (X _ _ hC) (looks_findIn X T.iC) (fun self => bind_fn X self T.tC) ?_
  refine init_ok (s := ⟨(hp.push (kdv_tup [])).push (HandSPX.excO C hp.objs.size), g, dr, tk, os⟩) T (v := v) (fun _ _ _ _ _ _ _ _ _ _ _ _ => BindsTo.of_eq (by first | rfl | with_unfolding_all rfl)) (X.keeps kk) (hlim.keeps kk) at1 hroom ?_
  intro h' tk' dx Z
  obtain ⟨k', hx, dn, dne, hns⟩ := Z
  have old : ∀ b o, hp.get? b = some o → h'.get? b = some o := fun b o e => k' b o (Nat.ne_of_lt (Nat.lt_succ_of_lt (Heap.lt_size e))) (kk b o e)
  have z : hp.objs.size + 1 + 1 ≤ dx := by
    have q := dn
    first | (rw [Heap.size_push, Heap.size_push] at q; exact q) | exact q
  exact ⟨rfl, hq h' tk' (hp.objs.size + 1) dx ⟨old, Nat.le_succ _, ⟨_, _, hx, rfl, rfl, rfl, rfl⟩, Nat.le_trans (Nat.le_trans (Nat.le_succ _) (Nat.le_succ _)) z, dne, hns⟩⟩
end
end PErrA
end PySem
namespace L2
open PySem PySem.Spec PyProof.Rows
section
variable {X : Cx} {C B fI : Addr} {cn q : Str}
/-- C(at=e).at -/
def tKwFldA (te : TE) : TE := fun σ H Q => tCons te tNil σ H fun vs H1 => ∃ v, vs = [v] ∧ ∀ d, H1 d = none → Q v (upd H1 d (.xd [(("at" : Str), v)]))
theorem pe_kwfld_A {e : Expr} {te : TE} {p pos apos kpos : Pos} {k : Nat} (T : PySem.PErrA.Txt X.K X.mg cn q C B fI) (hr : Room k X.A) (he : PE X e te) (hg : Gl X cn) (hdb : (cn == ("__debug__" : Str)) = false)
    (hb : attributeBase (.Call (.Name cn p) [] [⟨some "at", e, kpos⟩] pos) "at" X.env (eval (.Call (.Name cn p) [] [⟨some "at", e, kpos⟩] pos) X.env) = eval (.Call (.Name cn p) [] [⟨some "at", e, kpos⟩] pos) X.env := by rfl)
    (hall : (backToKw pos (keywordEach [⟨some "at", e, kpos⟩] X.env)).all (·.1.isSome) = true := by rfl) (hks : (backToKw pos (keywordEach [⟨some "at", e, kpos⟩] X.env)).filterMap (·.1) = [("at" : Str)] := by rfl)
    (hpl : ((backTo pos (starEach [] X.env)).any (·.1) || (backToKw pos (keywordEach [⟨some "at", e, kpos⟩] X.env)).any (·.1.isNone)) = false := by rfl) :
    PE X (.Attribute (.Call (.Name cn p) [] [⟨some "at", e, kpos⟩] pos) "at" apos) (tKwFldA te) := by
  refine ⟨fun pins s σ H Q I h => ?_⟩
  refine attr_of hb (wpAny_Call_Name_kw (ld_glob I hg T.base.gC ?_ hdb))
  refine PySem.W.callWith_KW0 (h₀ := X.base) I.ok.mod.kin T.base.kC hall (thn ((pk_cons he pk_nil).run pos pins s σ H _ I h) fun us s1 hh => ?_) hpl
  obtain ⟨vs, H1, I1, r1, v, ev, q1⟩ := hh
  subst ev
  rw [hks]
  cases r1 with
  | cons rv rn =>
    rename_i v' us'
    cases rn
    refine ⟨I1.kIn, ?_⟩
    show wpAny _ _ (call (.ref C) [] [(("at" : Str), v')]) _ _ _
    have hlim := I1.nolimit
    obtain ⟨hp, g, dr, tk, os⟩ := s1
    refine wpAny_call (PySem.PErrA.made_kw T I1.kIn hlim (by have := hr.dp; omega) fun h' tk' x d M => ?_)
    obtain ⟨oe, fv, hoe, hc, hd, hdat, h1⟩ := M.obj
    have J : Inv X pins σ (upd H1 d (.xd [(("at" : Str), v)])) ⟨h', g, dr, tk', os⟩ := I1.laid (t' := tk') M.keep M.dbig ⟨_, M.ns, fun f => relO_A rv f⟩
    obtain ⟨od, ho, hl⟩ := lookIn_ns M.ns
    have l2 : PySem.W.lookIn ("at" : Str) od = some (some v') := by rw [hl]; simp
    have IA : PySem.W.InstAt h' x oe C (some od) := ⟨hoe, hc, by unfold PySem.W.notCls; rw [hdat] <;> rfl, by rw [hd]; exact ho⟩
    exact HandSPX.exc_get (s := ⟨h', g, dr, tk', os⟩) J.kIn IA T.base.ga T.base.gg T.base.exC (PySem.W.findObj_own T.base.hdC T.noN rfl l2) (handed_of rv) ⟨v, _, J.tok _, rv, q1 d (I1.hok.fresh M.dbig)⟩
end
end L2

namespace PySem
namespace PErrW
open PySem.W PySem.Calls PyProof.Rows PySem.PErr
section
variable {prog : Program} {w : World} {A : Around} {R : Result → Shared → Prop} {s : Shared} {K : Frag} {mg : Str → Option Value} {C B fI : Addr} {cn q : Str}
theorem made_kw (T : Txt K mg cn q C B fI) {v : Value} (X : K.In s.heap) (hlim : s.heap.NoLimit) (hroom : A.depth + 1 < recursionLimit)
    (hq : ∀ h' tk e d, OwnMade s.heap h' e C d v → R (.ok (.ret (.ref e))) { s with heap := h', toks := tk }) : codeAny (model prog w) A (.call (.ref C) ⟨[], [("word", v)]⟩) R s := by
  obtain ⟨nm, qq, N, bs, sn, sub, ab, col, dd, k0, k1, k2, k3, k5, hC⟩ := T.base.cls
  obtain ⟨hp, g, dr, tk, os⟩ := s
  have kk : ∀ b o, hp.get? b = some o → ((hp.push (kdv_tup [])).push (HandSPX.excO C hp.objs.size)).get? b = some o := fun b o e => Heap.get?_push_of_some _ (Heap.get?_push_of_some _ e)
  have at1 : ((hp.push (kdv_tup [])).push (HandSPX.excO C hp.objs.size)).get? (hp.objs.size + 1) = some (HandSPX.excO C hp.objs.size) := by heap_get
  refine PErr.call_kw (X _ _ hC) (looks_findIn X T.iC) (fun self => bind_fn X self T.tC) ?_
  refine init_ok (s := ⟨(hp.push (kdv_tup [])).push (HandSPX.excO C hp.objs.size), g, dr, tk, os⟩) T (v := v) (fun _ _ _ _ _ _ _ _ _ _ _ _ => BindsTo.of_eq (by first | rfl | with_unfolding_all rfl)) (X.keeps kk) (hlim.keeps kk) at1 hroom ?_
  intro h' tk' dx Z
  obtain ⟨k', hx, dn, dne, hns⟩ := Z
  have old : ∀ b o, hp.get? b = some o → h'.get? b = some o := fun b o e => k' b o (Nat.ne_of_lt (Nat.lt_succ_of_lt (Heap.lt_size e))) (kk b o e)
  have z : hp.objs.size + 1 + 1 ≤ dx := by
    have q := dn
    first | (rw [Heap.size_push, Heap.size_push] at q; exact q) | exact q
  exact ⟨rfl, hq h' tk' (hp.objs.size + 1) dx ⟨old, Nat.le_succ _, ⟨_, _, hx, rfl, rfl, rfl, rfl⟩, Nat.le_trans (Nat.le_trans (Nat.le_succ _) (Nat.le_succ _)) z, dne, hns⟩⟩
end
end PErrW
end PySem
namespace L2
open PySem PySem.Spec PyProof.Rows
section
variable {X : Cx} {C B fI : Addr} {cn q : Str}
/-- C(word=e).word -/
def tKwFldW (te : TE) : TE := fun σ H Q => tCons te tNil σ H fun vs H1 => ∃ v, vs = [v] ∧ ∀ d, H1 d = none → Q v (upd H1 d (.xd [(("word" : Str), v)]))
theorem pe_kwfld_W {e : Expr} {te : TE} {p pos apos kpos : Pos} {k : Nat} (T : PySem.PErrW.Txt X.K X.mg cn q C B fI) (hr : Room k X.A) (he : PE X e te) (hg : Gl X cn) (hdb : (cn == ("__debug__" : Str)) = false)
    (hb : attributeBase (.Call (.Name cn p) [] [⟨some "word", e, kpos⟩] pos) "word" X.env (eval (.Call (.Name cn p) [] [⟨some "word", e, kpos⟩] pos) X.env) = eval (.Call (.Name cn p) [] [⟨some "word", e, kpos⟩] pos) X.env := by rfl)
    (hall : (backToKw pos (keywordEach [⟨some "word", e, kpos⟩] X.env)).all (·.1.isSome) = true := by rfl) (hks : (backToKw pos (keywordEach [⟨some "word", e, kpos⟩] X.env)).filterMap (·.1) = [("word" : Str)] := by rfl)
    (hpl : ((backTo pos (starEach [] X.env)).any (·.1) || (backToKw pos (keywordEach [⟨some "word", e, kpos⟩] X.env)).any (·.1.isNone)) = false := by rfl) :
    PE X (.Attribute (.Call (.Name cn p) [] [⟨some "word", e, kpos⟩] pos) "word" apos) (tKwFldW te) := by
  refine ⟨fun pins s σ H Q I h => ?_⟩
  refine attr_of hb (wpAny_Call_Name_kw (ld_glob I hg T.base.gC ?_ hdb))
  refine PySem.W.callWith_KW0 (h₀ := X.base) I.ok.mod.kin T.base.kC hall (thn ((pk_cons he pk_nil).run pos pins s σ H _ I h) fun us s1 hh => ?_) hpl
  obtain ⟨vs, H1, I1, r1, v, ev, q1⟩ := hh
  subst ev
  rw [hks]
  cases r1 with
  | cons rv rn =>
    rename_i v' us'
    cases rn
    refine ⟨I1.kIn, ?_⟩
    show wpAny _ _ (call (.ref C) [] [(("word" : Str), v')]) _ _ _
    have hlim := I1.nolimit
    obtain ⟨hp, g, dr, tk, os⟩ := s1
    refine wpAny_call (PySem.PErrW.made_kw T I1.kIn hlim (by have := hr.dp; omega) fun h' tk' x d M => ?_)
    obtain ⟨oe, fv, hoe, hc, hd, hdat, h1⟩ := M.obj
    have J : Inv X pins σ (upd H1 d (.xd [(("word" : Str), v)])) ⟨h', g, dr, tk', os⟩ := I1.laid (t' := tk') M.keep M.dbig ⟨_, M.ns, fun f => relO_W rv f⟩
    obtain ⟨od, ho, hl⟩ := lookIn_ns M.ns
    have l2 : PySem.W.lookIn ("word" : Str) od = some (some v') := by rw [hl]; simp
    have IA : PySem.W.InstAt h' x oe C (some od) := ⟨hoe, hc, by unfold PySem.W.notCls; rw [hdat] <;> rfl, by rw [hd]; exact ho⟩
    exact HandSPX.exc_get (s := ⟨h', g, dr, tk', os⟩) J.kIn IA T.base.ga T.base.gg T.base.exC (PySem.W.findObj_own T.base.hdC T.noN rfl l2) (handed_of rv) ⟨v, _, J.tok _, rv, q1 d (I1.hok.fresh M.dbig)⟩
end
end L2

/-! An error whose __init__ takes nothing and does nothing. -/
namespace PySem
namespace PErr0
open PySem.W PySem.Calls PyProof.Rows PySem.PErr
def args (p1 : Pos) : Arguments := { posonlyargs := [], args := [⟨"self", none, p1⟩], vararg := none, kwonlyargs := [], kw_defaults := [], kwarg := none, defaults := [] }
def scop : Scope := { kind := .function, names := [(PySem.Str.ofString "self", .local)], isGenerator := false, isCoroutine := false, more := [] }
structure Txt (K : Frag) (mg : Str → Option Value) (x q : Str) (C B fI : Addr) : Prop where
  base : PySem.PErr.Cl K mg x C B
  iC : findIn K (.ref C) "__init__" = some (some (.ref fI))
  tC : typeIn K (.ref fI) = some (.type "function")
  fn : ∃ (oc : Value) (od : Option Addr) (doc pm : Value) (an : Option Addr) (cdv ct : Value) (osl : Array (Option Value)) (p1 q1 : Pos),
    K.lookup fI = some ⟨oc, od, .func (fnOf "__init__" q (args p1) [.Pass q1] scop .none .none doc pm an cdv ct), osl⟩ ∧ codeIn K cdv q = true
section
variable {prog : Program} {w : World} {A : Around} {R : Result → Shared → Prop} {s : Shared} {K : Frag} {mg : Str → Option Value} {C B fI : Addr} {cn q : Str}
theorem made0 (T : Txt K mg cn q C B fI) (X : K.In s.heap) (hlim : s.heap.NoLimit) (hroom : A.depth + 1 < recursionLimit)
    (hq : ∀ h' tk e t0, (∀ b o, s.heap.get? b = some o → h'.get? b = some o) → s.heap.objs.size ≤ e → h'.get? e = some (HandSPX.excO C t0) → R (.ok (.ret (.ref e))) { s with heap := h', toks := tk }) : codeAny (model prog w) A (.call (.ref C) ⟨[], []⟩) R s := by
  obtain ⟨nm, qq, N, bs, sn, sub, ab, col, dd, k0, k1, k2, k3, k5, hC⟩ := T.base.cls
  obtain ⟨oc, od, doc, pm, an, cdv, ct, osl, p1, q1, ho, hcd⟩ := T.fn
  obtain ⟨hp, g, dr, tk, os⟩ := s
  have kk : ∀ b o, hp.get? b = some o → ((hp.push (kdv_tup [])).push (HandSPX.excO C hp.objs.size)).get? b = some o := fun b o e => Heap.get?_push_of_some _ (Heap.get?_push_of_some _ e)
  have at1 : ((hp.push (kdv_tup [])).push (HandSPX.excO C hp.objs.size)).get? (hp.objs.size + 1) = some (HandSPX.excO C hp.objs.size) := by heap_get
  refine PErr.call_kw (X _ _ hC) (looks_findIn X T.iC) (fun self => bind_fn X self T.tC) ?_
  refine Att.call_fn (s := ⟨(hp.push (kdv_tup [])).push (HandSPX.excO C hp.objs.size), g, dr, tk, os⟩) (binds := [("self", .ref (hp.objs.size + 1))]) (X.keeps kk) (hlim.keeps kk) ho hcd hroom (BindsTo.of_eq (by first | rfl | with_unfolding_all rfl)) (by first | rfl | decide | with_unfolding_all rfl) (fun s₁ IC => ?_) rfl rfl rfl
  obtain ⟨h₁, tk₁, rfl⟩ := IC.toInCall.same
  have k : ∀ b o, ((hp.push (kdv_tup [])).push (HandSPX.excO C hp.objs.size)).get? b = some o → h₁.get? b = some o := IC.toInCall.keep
  show wpAny _ _ (execs _ _) _ _ _
  refine wpAny_execs_cons (wpAny_Pass (wpAny_execs_nil ⟨rfl, hq h₁ tk₁ (hp.objs.size + 1) hp.objs.size (fun b o e => k b o (kk b o e)) (Nat.le_succ _) (k _ _ at1)⟩))
end
end PErr0
end PySem
namespace L2
open PySem PySem.Spec PyProof.Rows
section
variable {X : Cx} {C B fI : Addr} {cn q : Str}
theorem pmk_0 {p pos : Pos} {k : Nat} (T : PySem.PErr0.Txt X.K X.mg cn q C B fI) (hr : Room k X.A) (hg : Gl X cn) (hdb : (cn == ("__debug__" : Str)) = false) :
    PMk X (.Call (.Name cn p) [] [] pos) (fun _ H Q => Q (.ref C) none H) := by
  intro pins s σ H Q I h
  refine wpAny_Call_Name_kw (ld_glob I hg T.base.gC ?_ hdb)
  refine PySem.W.callWith_K0 I.kIn T.base.kC ?_
  show wpAny _ _ (call (.ref C) []) _ _ _
  have hlim := I.nolimit
  have kin := I.kIn
  obtain ⟨hp, g, dr, tk, os⟩ := s
  refine wpAny_call (PySem.PErr0.made0 T kin hlim (by have := hr.dp; omega) fun h' tk' e t0 kp en hoe => ?_)
  show MkP X pins σ Q (.ref e) ⟨h', g, dr, tk', os⟩
  obtain ⟨G', g1, g2⟩ := restrict h' fun b => decide (b ≠ e)
  have gk : ∀ b, b ≠ e → G'.get? b = h'.get? b := fun b hb => g1 b (decide_eq_true hb)
  have ge : G'.get? e = none := g2 e (by simp)
  have old : ∀ b o, hp.get? b = some o → G'.get? b = some o := fun b o q => (gk b (Nat.ne_of_lt (Nat.lt_of_lt_of_le (Heap.lt_size q) en))).trans (kp b o q)
  have J : Inv X pins σ H ⟨G', g, dr, tk', os⟩ := I.kept (t' := tk') old
  refine ⟨e, _, _, ⟨G', g, dr, tk', os⟩, H, .ref C, none, rfl, J, fun b o q => ?_, ge, hoe, ⟨rfl, rfl⟩, rfl, rfl, I.hok.fresh en, rfl, I.bare, raises_own T.base.exC T.base.tyC, h⟩
  by_cases hb : b = e
  · have q' : G'.get? b = some o := q
    rw [hb, ge] at q'
    cases q'
  · exact (gk b hb).symm.trans q
def tRaise0 (C : Addr) (W : WX) : TS := fun _ σ H => W (.ref C) none σ H
theorem ps_raise_0 {W : WX} {p pos pos2 : Pos} {k : Nat} (hc : X.calm = true) (T : PySem.PErr0.Txt X.K X.mg cn q C B fI) (hr : Room k X.A) (tk : Takes X W) (hg : Gl X cn) (hdb : (cn == ("__debug__" : Str)) = false) :
    PS X (.Raise (some (.Call (.Name cn p) [] [] pos)) none pos2) (tRaise0 C W) := ps_raise hc tk (pmk_0 T hr hg hdb)
end
end L2

/-! A def that is known by its promise, called. -/
namespace L2
open PySem PySem.Spec PyProof.Rows
structure Dfn (P : Program) (w : World) (K : PySem.W.Frag) (mg : Str → Option Value) (base : Heap) (CX : CXT) (lv : Nat) (x : Str) (ps : List Str) (sp : Sp) (fa : Addr) (fd : FuncData) : Prop where
  ok : FnOk P w K mg base CX lv fa fd ps sp
  g : mg x = some (.ref fa)
  kp : PySem.W.keepIn K (.ref fa) = true
  b : Binds K fd ps []
section
variable {X : Cx} {lv : Nat} {x : Str} {ps : List Str} {sp : Sp} {fa : Addr} {fd : FuncData} {e : Expr} {es : List Expr} {t : TA} {p pos : Pos}
theorem pe_d (D : Dfn X.prog X.w X.K X.mg X.base CX0 lv x ps sp fa fd) (hr : Room lv X.A) (ha : PA X (e :: es) t) (hg : Gl X x := by rfl)
    (hdb : (x == ("__debug__" : Str)) = false := by decide) (he : starEach (e :: es) X.env = (false, eval e X.env) :: starEach es X.env := by rfl) (hpl : (backTo pos (starEach es X.env)).any (·.1) = false := by rfl) :
    PE X (.Call (.Name x p) (e :: es) [] pos) (tCall sp [] E0 t) := pe_call D.ok hr hg D.g D.kp D.b .nil pass0 ha hdb he hpl
theorem pe_d0 (D : Dfn X.prog X.w X.K X.mg X.base CX0 lv x ps sp fa fd) (hr : Room lv X.A) (hg : Gl X x := by rfl) (hdb : (x == ("__debug__" : Str)) = false := by decide) :
    PE X (.Call (.Name x p) [] [] pos) (tCall sp [] E0 tNil) := pe_call0 D.ok hr hg D.g D.kp D.b .nil pass0 hdb
theorem pe_dS {W : WX} (D : Dfn X.prog X.w X.K X.mg X.base (L2.CX X.prog X.w) lv x ps sp fa fd) (hr : Room lv X.A) (tk : Takes X W) (ha : PA X (e :: es) t) (hg : Gl X x := by rfl)
    (hdb : (x == ("__debug__" : Str)) = false := by decide) (he : starEach (e :: es) X.env = (false, eval e X.env) :: starEach es X.env := by rfl) (hpl : (backTo pos (starEach es X.env)).any (·.1) = false := by rfl) :
    PE X (.Call (.Name x p) (e :: es) [] pos) (tCallS sp (WE W) t) := pe_callS D.ok hr hg D.g D.kp D.b (fun σ => passAt tk σ) ha hdb he hpl
end
/-! ### tests whose answer is known -/
section
variable {σ : L2.St} {H : Hp} {D : Ends} {t u : TS} {i : Nat} {n j : Int}
theorem ife_yes (h0 : σ[i]? = some (some (.int n))) (e : n = j) (q : t D σ H) : tIfS (tTest (tOp rEq (tVar i) (tC (.int j)))) t u D σ H := by
  refine ⟨_, h0, rfl, _, rfl, ?_⟩
  rw [decide_eq_true (by rw [e])]
  exact iteT q
theorem ife_no (h0 : σ[i]? = some (some (.int n))) (e : n ≠ j) (q : u D σ H) : tIfS (tTest (tOp rEq (tVar i) (tC (.int j)))) t u D σ H := by
  refine ⟨_, h0, rfl, _, rfl, ?_⟩
  rw [decide_eq_false (fun z => e (V.int.inj z))]
  exact iteF q
end
end L2

namespace PySem
namespace PErr
open PySem.W PySem.Calls PyProof.Rows
section
variable {K : Frag} {mg : Str → Option Value} {x y : Str} {C B D : Addr}
theorem sub_cl (T : Cl K mg x C B) : subIn K (.ref C) (.ref D) = some (decide (C = D) || decide (B = D)) := by
  obtain ⟨nm, q, N, bs, sn, sub, ab, col, dd, k0, k1, k2, k3, k5, hC⟩ := T.cls
  have hcl : clsIn K C = some { name := nm, bases := bs, mro := mroE C B, ns := N, qualname := q, hasDict := true, slotNames := sn, subclasses := sub, abstract := ab, collection := col, hasDel := false } := by unfold clsIn; rw [hC] <;> rfl
  show mroIn K C (.ref D) = _
  unfold mroIn
  rw [hcl, Option.bind_some, if_neg (show ¬ (List.isEmpty (mroE C B) = true) from Bool.false_ne_true)]
  have e : (mroE C B).contains (.ref D) = (decide (C = D) || decide (B = D)) := by
    rw [List.contains_cons, List.contains_cons]
    have e1 : ∀ A : Addr, ((Value.ref D == Value.ref A) : Bool) = decide (A = D) := fun A => by
      by_cases h : A = D
      · subst h; simp
      · rw [decide_eq_false h]; simpa using fun z => h z.symm
    rw [e1, e1]
    have e3 : tailE.contains (.ref D) = false := by simp
    rw [e3, Bool.or_false]
  rw [e]
theorem cls_some (T : Cl K mg x C B) : (clsIn K C).isSome = true := by
  obtain ⟨nm, q, N, bs, sn, sub, ab, col, dd, k0, k1, k2, k3, k5, hC⟩ := T.cls
  unfold clsIn
  rw [hC] <;> rfl
theorem exm_of (h1 : subIn K (.ref D) (.type "BaseException") = some true) (h2 : (clsIn K D).isSome = true) (h3 : typeIn K (.ref D) = some (.type "type")) (T : Cl K mg x C B) : exmOne K (.ref C) (.ref D) = some (decide (C = D) || decide (B = D)) := by
  have e1 : (subIn K (.ref D) (.type "BaseException") == some true) = true := by rw [h1] <;> rfl
  have e2 : ((clsIn K D).isSome && typeIn K (.ref D) == some (.type "type")) = true := by rw [h2, h3] <;> rfl
  show (if (subIn K (.ref D) (.type "BaseException") == some true) = true then (if ((clsIn K D).isSome && typeIn K (.ref D) == some (.type "type")) = true then subIn K (.ref C) (.ref D) else none) else none) = _
  rw [if_pos e1, if_pos e2, sub_cl T]
/-- an error of one class, a clause that names another one of the family -/
theorem exm_cl (T : Cl K mg x C B) (U : Cl K mg y D B) (n : B ≠ D) : exmOne K (.ref C) (.ref D) = some (decide (C = D)) := by
  rw [exm_of U.exC (cls_some U) U.tyC T, decide_eq_false n, Bool.or_false]
theorem exm_base (h1 : subIn K (.ref B) (.type "BaseException") = some true) (h2 : (clsIn K B).isSome = true) (h3 : typeIn K (.ref B) = some (.type "type")) (T : Cl K mg x C B) : exmOne K (.ref C) (.ref B) = some true := by
  rw [exm_of h1 h2 h3 T, decide_eq_true rfl, Bool.or_true]
end
end PErr
end PySem

/-! A def that is called where nothing is being shown: repr may be told. -/
namespace L2
open PySem PySem.Spec PyProof.Rows
structure FnG (P : Program) (w : World) (K : PySem.W.Frag) (mg : Str → Option Value) (base : Heap) (CX : CXT) (k : Nat) (f : Addr) (fd : FuncData) (ps : List Str) (sp : Sp) : Prop where
  len : ∀ (vs : List V) (H : Hp) (Q : VK) (E : XK), sp vs H Q E → vs.length = ps.length
  run : ∀ (A : Around) (outer : List Env) (s : Shared) (H : Hp) (args : Args) (us : List Value) (vs : List V) (Q : VK) (E : XK), A.guards = some [] → Room k A → Env0 P w K mg base A outer s H → BindsTo s fd args (ps.zip us) → Vals vs us → sp vs H Q E → codeAny (model P w) A (Code.call (.ref f) args) (CR CX outer P w H s Q E) s
section
variable {CX : CXT} {P : Program} {w : World} {K : PySem.W.Frag} {mg : Str → Option Value} {base : Heap} {k : Nat} {f : Addr} {name qual : Str} {params : Arguments} {body : List Stmt} {scope : Scope} {dV kV doc pm cdv ct oc : Value} {an od : Option Addr} {osl : Array (Option Value)} {N ps : List Str} {sp : Sp}
theorem fn_ofG (lk : K.lookup f = some { cls := oc, dict := od, data := Data.func (PySem.W.fnOf name qual params body scope dV kV doc pm an cdv ct), slots := osl }) (hcd : PySem.W.codeIn K cdv qual = true) (S : FnScope N ps scope)
    (len : ∀ (vs : List V) (H : Hp) (Q : VK) (E : XK), sp vs H Q E → vs.length = ps.length)
    (hbody : ∀ (A : Around) (outer : List Env) (s : Shared) (H : Hp) (vs : List V) (Q : VK) (E : XK), A.guards = some [] → Room k (A.deeper (envOfC qual scope s.heap.objs.size f cdv)) → sp vs H Q E → ∃ t, PSs (cxOf CX P w K mg base N qual scope f cdv A outer s H E) body t ∧ t { nx := fun _ H' => Q .non H', rt := Q } (L2.start N vs) H) :
    FnG P w K mg base CX (k + 1) f (PySem.W.fnOf name qual params body scope dV kV doc pm an cdv ct) ps sp := by
  refine ⟨len, fun A outer s H args us vs Q E hg hr e0 hb r hsp => ?_⟩
  have hl := len vs H Q E hsp
  have KX := PySem.W.Frag.In.keeps e0.mod.kin fun b o e => (e0.bs b o e).1
  have lim := Heap.NoLimit.keeps e0.mod.nolimit fun b o e => (e0.bs b o e).1
  refine codeAny_call_function hr.depth (KX f _ lk) rfl S.co S.gen rfl (PySem.W.codeRec_of KX hcd) (hb (model P w) A.in1 _ _ (wpAny_newFunctionEnv_cells S.kind (fun x hy => ?_) fun env he s1 x => ?_))
  · obtain ⟨n, v⟩ := x
    rcases S.par n (List.of_mem_zip hy).1 with q | q
    · exact .inl q
    · exact .inr ⟨q, PySem.W.cellsFrom_some scope.names (s.heap.objs.size + 1) [] (.inl q)⟩
  · subst he
    refine ⟨lim.keeps x.toInCall.keep, codeAny_func ?_⟩
    obtain ⟨t, ht, hq⟩ := hbody A outer s H vs Q E hg (hr.deeper _) hsp
    have I : Inv (cxOf CX P w K mg base N qual scope f cdv A outer s H E) [] (L2.start N vs) H s1 := inv_start S hr.hd e0 hl r x
    refine wpAny_mono (ht.run [] s1 (L2.start N vs) H { nx := fun _ H' => Q .non H', rt := Q } I hq) (fun fl s' hs => ?_) fun e s' hs => hs
    have fin : ∀ {σ' : L2.St} {H' : Hp} {v : V} {u : Value}, Inv (cxOf CX P w K mg base N qual scope f cdv A outer s H E) [] σ' H' s' → RelV v u → Q v H' → CE outer P w H s Q u s' := fun {σ' H' v u} J rv q => ⟨v, H', J.os, J.bare, J.base, J.hok, rv, q⟩
    cases fl with
    | next => obtain ⟨σ', H', J, q⟩ := hs; exact fin J (v := .non) rfl q
    | brk => obtain ⟨_, _, _, q⟩ := hs; exact q.elim
    | cont => obtain ⟨_, _, _, q⟩ := hs; exact q.elim
    | ret u => obtain ⟨v, σ', H', J, rv, q⟩ := hs; exact fin J rv q
end
theorem Fun.okG {P : Program} {w : World} {K : PySem.W.Frag} {mg : Str → Option Value} {base : Heap} {x qual : Str} {st : Stmt} {f : Addr} {fd : FuncData} {N ps : List Str} {k : Nat} {sp : Sp} (F : Fun K x qual st f fd) (S : FnScope N ps (defScope st))
    (len : ∀ (vs : List V) (H : Hp) (Q : VK) (E : XK), sp vs H Q E → vs.length = ps.length)
    (hbody : ∀ (cdv : Value) (A : Around) (outer : List Env) (s : Shared) (H : Hp) (vs : List V) (Q : VK) (E : XK), A.guards = some [] → Room k (A.deeper (envOfC qual (defScope st) s.heap.objs.size f cdv)) → sp vs H Q E → ∃ t, PSs (cxOf CX0 P w K mg base N qual (defScope st) f cdv A outer s H E).nox (defBody st) t ∧ t { nx := fun _ H' => Q .non H', rt := Q } (L2.start N vs) H) :
    FnG P w K mg base CX0 (k + 1) f fd ps sp := by
  obtain ⟨oc, od, kV, doc, pm, an, cdv, ct, osl, rfl, lk, hcd⟩ := F.ex
  refine fn_ofG lk hcd S len fun A outer s H vs Q E hg hr hsp => ?_
  obtain ⟨t, h, q⟩ := hbody cdv A outer s H vs Q E hg hr hsp
  exact ⟨t, h.nox, q⟩

theorem law_callG {P : Program} {w : World} {K : PySem.W.Frag} {mg mb : Str → Option Value} {CX : CXT} {k : Nat} {fa a : Addr} {cs : List (Addr × Addr)} {fd : FuncData} {x : Str} {sp : Sp} {s₁ : Shared} {vs : List Value} {ns : List Int}
    (KX : K.In s₁.heap) (hns : s₁.heap.Ns mainGlobals mg) (hb : s₁.heap.Ns builtinsNs mb) (hbb : ∀ x : Str, x ≠ "__name__" → mb x = bootBuiltins x) (hlim : s₁.heap.NoLimit) (hg : s₁.gens = #[])
    (hT : ∀ p ∈ cs, s₁.heap.get? p.2 = some { cls := Value.none, data := Data.fields #[] }) (nT : ∀ p ∈ cs, K.lookup p.2 = none) (C : ∀ p ∈ cs, PySem.W.CodeHd s₁.heap p.1 p.2)
    (hbm : ∃ bm ob, mg "__builtins__" = some (Value.ref bm) ∧ bm ≠ builtinsNs ∧ s₁.heap.get? bm = some ob ∧ ob.cls = Value.type "module" ∧ ob.dict = some builtinsNs ∧ ob.data = Data.plain)
    (ha : s₁.heap.get? a = some { cls := Value.type "list", data := Data.seq vs.toArray }) (hi : IntsAre vs ns) (hl : ns.length ≤ sizeLine) (hr : Room k callerA)
    (F : ∀ base : Heap, K.In base → base.Ns mainGlobals mg → (∀ p ∈ cs, LamX.TabB base mg p.1 p.2) → FnG P w K mg base CX k fa fd [x] sp)
    (hbind : ∀ (s : Shared) (u : Value), BindsTo s fd { pos := [u] } [(x, u)])
    (hsp : ∀ H : Hp, (∀ p ∈ cs, H p.2 = some (HO.tbl #[])) → SqL K H a (ns.map V.int) → sp [V.ref a] H (fun v _ => v = V.bl true) fun _ _ _ => False)
    (hCX : ∀ (H : Hp) (e : Value) (s' : Shared), CX [] H s₁ (fun _ _ _ => False) e s' → False) :
    codeAny (model P w) callerA (Code.call (Value.ref fa) { pos := [Value.ref a] }) (fun r s' => r = Except.ok (Flow.ret (Value.bool true)) ∧ OldK s₁.heap s'.heap ∧ s'.os = s₁.os ∧ AllBare s'.gens) s₁ := by
  have rv := vals_ints hi
  have tabO : ∀ {b : Addr} {o : Obj}, b ∈ cs.map (·.2) → s₁.heap.get? b = some o → o = { cls := Value.none, data := Data.fields #[] } := fun {b o} hb e => by
    obtain ⟨p, hp, ep⟩ := List.mem_map.mp hb
    rw [← ep, hT p hp] at e
    cases e
    rfl
  have aT : a ∉ cs.map (·.2) := fun z => by
    have := tabO z ha
    exact absurd (congrArg Obj.data this) (by intro q; cases q)
  have core : ∀ H : Hp, (∀ p ∈ cs, H p.2 = some (HO.tbl #[])) → (∀ b, H b = none ∨ b ∈ cs.map (·.2) ∨ ∃ ob xs, H b = some (HO.frz ob (HO.lst xs))) → SqL K H a (ns.map V.int) → HOk P w H s₁.heap → (∀ b, H b ≠ none → b = a ∨ b ∈ cs.map (·.2)) → (H a ≠ none → K.lookup a = none) →
      codeAny (model P w) callerA (Code.call (Value.ref fa) { pos := [Value.ref a] }) (fun r s' => r = Except.ok (Flow.ret (Value.bool true)) ∧ OldK s₁.heap s'.heap ∧ s'.os = s₁.os ∧ AllBare s'.gens) s₁ := by
    intro H hH hO hS hok hA hK
    have noD : ∀ {b : Addr} {o : Obj}, s₁.heap.get? b = some o → (∀ vs n, o.data ≠ Data.seq vs n) → o.data ≠ Data.fields #[] → H b = none := fun {b o} e h1 h2 => by
      cases hh : H b with
      | none => rfl
      | some u =>
        rcases hA b (by rw [hh]; simp) with rfl | hb
        · rw [ha] at e
          cases e
          exact absurd rfl (h1 _ _)
        · have := tabO hb e
          subst this
          exact absurd rfl h2
    have nsK : ∀ {b : Addr} {m : Str → Option Value}, s₁.heap.Ns b m → (hidT s₁.heap H).Ns b m := fun {b m} h => by
      obtain ⟨o, es, ep, e, d, r⟩ := h
      exact ⟨o, es, ep, hidT_get e (noD e (fun vs n z => by rw [d] at z; cases z) (fun z => by rw [d] at z; cases z)), d, r⟩
    have hKb : K.In (hidT s₁.heap H) := fun b o e => by
      refine hidT_get (KX b o e) ?_
      cases hh : H b with
      | none => rfl
      | some u =>
        rcases hA b (by rw [hh]; simp) with rfl | hb
        · rw [hK (by rw [hh]; simp)] at e
          cases e
        · obtain ⟨p, hp, ep⟩ := List.mem_map.mp hb
          rw [← ep, nT p hp] at e
          cases e
    have hM : Mod K mg (hidT s₁.heap H) := ⟨hKb, nsK hns, ⟨mb, nsK hb, hbb⟩, by obtain ⟨mc, h1, h2⟩ := hlim; exact ⟨mc, nsK h1, h2⟩⟩
    have TB : ∀ p ∈ cs, LamX.TabB (hidT s₁.heap H) mg p.1 p.2 := fun p hp => by
      have hTp := hT p hp
      refine ⟨?_, ?_, fun z => ?_⟩
      · obtain ⟨o, us, file, tf, flags, tg, inF, text, tt, e1, r1, r2, r3, r⟩ := C p hp
        refine ⟨o, us, file, tf, flags, tg, inF, text, tt, hidT_get e1 (noD e1 (fun vs n z => by rw [r2] at z; cases z) (fun z => ?_)), r1, r2, r3, r⟩
        rw [r2] at z
        cases z
        cases r3
      · obtain ⟨bm, ob, b1, b2, b3, b4, b5, b6⟩ := hbm
        refine ⟨bm, ob, b1, b2, fun z => ?_, fun z => ?_, hidT_get b3 (noD b3 (fun vs n z => by rw [b6] at z; cases z) (fun z => by rw [b6] at z; cases z)), b4, b5, b6⟩
        · obtain ⟨o, es, ep, e, d, r⟩ := hns
          rw [z, e] at b3
          cases b3
          rw [b6] at d
          cases d
        · rw [z, hTp] at b3
          cases b3
          cases b4
      · obtain ⟨o, es, ep, e, d, r⟩ := hns
        rw [z, hTp] at e
        cases e
        cases d
    have e0 : Env0 P w K mg (hidT s₁.heap H) callerA [] s₁ H := ⟨rfl, hM, fun b o e => of_hidT e, Nat.le_of_eq (hidT_size s₁.heap H), trivial, fun b hb => absurd hb (by simp [frs]), hok, AllBare.of_eq hg⟩
    refine codeAny_mono ((F (hidT s₁.heap H) hKb (nsK hns) TB).run callerA [] s₁ H { pos := [Value.ref a] } [Value.ref a] [V.ref a] (fun v _ => v = V.bl true) (fun _ _ _ => False) rfl hr e0 (hbind s₁ (Value.ref a)) (.cons rfl .nil) (hsp H hH hS)) fun r s' h => ?_
    rcases r with e | (_ | _ | _ | u)
    · exact (hCX H e s' h).elim
    · exact False.elim h
    · exact False.elim h
    · exact False.elim h
    · obtain ⟨v, H', os, bare, un, hok', r', q⟩ := h
      have q' : v = V.bl true := q
      subst q'
      have ru : u = Value.bool true := r'
      subst ru
      have key : ∀ (b : Addr) (o : Obj), b ∉ cs.map (·.2) → s₁.heap.get? b = some o → s'.heap.get? b = some o := fun b o nb e => by
        cases hh : H b with
        | none => exact un.keep b o e hh (by simp [frs]) (by simp)
        | some u =>
          rcases hO b with z | z | ⟨ob, xs, z⟩
          · rw [hh] at z; cases z
          · exact absurd z nb
          · have z2 := un.frzs b ob (HO.lst xs) z
            have e1 := (hok b _ z).1
            have e2 := (hok' b _ z2).1
            rw [e] at e1
            cases e1
            exact e2
      have grown : ∀ p ∈ cs, ∃ more, s'.heap.get? p.2 = some { cls := Value.none, data := Data.fields more } := fun p hp => by
        obtain ⟨more, z⟩ := un.tbls p.2 #[] (hH p hp)
        exact ⟨_, hok' p.2 _ z⟩
      refine ⟨rfl, ⟨fun b o e => ?_, fun b o e => ?_⟩, os, bare⟩
      · by_cases hb : b ∈ cs.map (·.2)
        · obtain ⟨p, hp, rfl⟩ := List.mem_map.mp hb
          obtain ⟨more, hm⟩ := grown p hp
          have eo := tabO hb e
          subst eo
          exact .inr (.inl ⟨Heap.TableAt.isCodeTable (PySem.W.CodeHd.tab (C p hp) (hT p hp)), rfl, #[], more, rfl, by rw [Array.empty_append]; exact hm⟩)
        · exact .inl (key b o hb e)
      · by_cases hb : b ∈ cs.map (·.2)
        · obtain ⟨p, hp, rfl⟩ := List.mem_map.mp hb
          obtain ⟨more, hm⟩ := grown p hp
          exact ⟨_, hm⟩
        · exact ⟨o, key b o hb e⟩
  cases hk : K.lookup a with
  | none =>
    refine core (fun b => if b = a then some (HO.frz { cls := Value.type "list", data := Data.seq vs.toArray } (HO.lst (ns.map V.int))) else if b ∈ cs.map (·.2) then some (HO.tbl #[]) else none) (fun p hp => ?_) (fun b => ?_) (.inl (.inr ⟨_, if_pos rfl⟩)) (fun b u z => ?_) (fun b z => ?_) fun _ => hk
    · have hm : p.2 ∈ cs.map (·.2) := List.mem_map.mpr ⟨p, hp, rfl⟩
      show (if p.2 = a then _ else _) = _
      rw [if_neg (fun z => aT (by rw [← z]; exact hm)), if_pos hm]
    · by_cases h1 : b = a
      · exact .inr (.inr ⟨_, _, if_pos h1⟩)
      · by_cases h2 : b ∈ cs.map (·.2)
        · exact .inr (.inl h2)
        · exact .inl (by show (if b = a then _ else _) = _; rw [if_neg h1, if_neg h2])
    · dsimp only at z
      by_cases h1 : b = a
      · subst h1
        rw [if_pos rfl] at z
        cases z
        exact ⟨ha, by rw [List.length_map]; exact hl, vs, 0, rv, ha⟩
      · rw [if_neg h1] at z
        by_cases h2 : b ∈ cs.map (·.2)
        · rw [if_pos h2] at z
          cases z
          obtain ⟨p, hp, rfl⟩ := List.mem_map.mp h2
          exact hT p hp
        · rw [if_neg h2] at z
          cases z
    · by_cases h1 : b = a
      · exact .inl h1
      · by_cases h2 : b ∈ cs.map (·.2)
        · exact .inr h2
        · exact absurd (by show (if b = a then _ else _) = _; rw [if_neg h1, if_neg h2]) z
  | some o =>
    have e := KX a o hk
    rw [ha] at e
    cases e
    refine core (fun b => if b ∈ cs.map (·.2) then some (HO.tbl #[]) else none) (fun p hp => if_pos (List.mem_map.mpr ⟨p, hp, rfl⟩)) (fun b => ?_) (.inr ⟨_, vs.toArray, 0, hk, rfl, rfl, rfl, ?_, ?_⟩) (fun b u z => ?_) (fun b z => ?_) fun z => absurd (if_neg aT) z
    · by_cases h2 : b ∈ cs.map (·.2)
      · exact .inr (.inl h2)
      · exact .inl (if_neg h2)
    · have := rv.length
      rw [List.length_map] at this
      show vs.toArray.size ≤ _
      rw [List.size_toArray, ← this]
      exact hl
    · exact rv
    · dsimp only at z
      by_cases h2 : b ∈ cs.map (·.2)
      · rw [if_pos h2] at z
        cases z
        obtain ⟨p, hp, rfl⟩ := List.mem_map.mp h2
        exact hT p hp
      · rw [if_neg h2] at z
        cases z
    · by_cases h2 : b ∈ cs.map (·.2)
      · exact .inr h2
      · exact absurd (if_neg h2) z
/-- what is asked of the law's own def -/
def LawAtG (l : PySem.W.OpenLaw) (w : World) (K : PySem.W.Frag) (CX : CXT) (k n : Nat) (x : Str) (mg : Str → Option Value) (fa : Addr) (h : Heap) : Prop :=
  ∃ (fd : FuncData) (cs : List (Addr × Addr)) (sp : Sp), (∀ p ∈ cs, h.get? p.2 = some { cls := Value.none, data := Data.fields #[] }) ∧ (∀ p ∈ cs, K.lookup p.2 = none) ∧ (∀ p ∈ cs, PySem.W.CodeHd h p.1 p.2) ∧
    (∀ (s : Shared) (u : Value), BindsTo s fd { pos := [u] } [(x, u)]) ∧
    (∀ (H : Hp) (a : Addr) (ns : List Int), ns.length ≤ n → (∀ z ∈ ns, Builtin.Int.intBits z ≤ 1048576) → (∀ p ∈ cs, H p.2 = some (HO.tbl #[])) → SqL K H a (ns.map V.int) → sp [V.ref a] H (fun v _ => v = V.bl true) fun _ _ _ => False) ∧
    ∀ base : Heap, K.In base → base.Ns mainGlobals mg → (∀ p ∈ cs, LamX.TabB base mg p.1 p.2) → FnG l.prog w K mg base CX k fa fd [x] sp
theorem walk_ofG {l : PySem.W.OpenLaw} {n k : Nat} {q : Program} {loose : List Str} {XP : (Str → Option Value) → Heap → Prop} {YP : World → Heap → Prop} {d : DefRec} {K : Params → PySem.W.Frag} {CX : World → CXT} {x : Str}
    (hn : l.most = some n) (hn2 : n ≤ sizeLine) (hdf : d.params.defaults = []) (hr : Room k callerA) (hY : ∀ (w : World) (h : Heap), YP w h → (K w.params).In h)
    (F : ∀ (w : World) (mg : Str → Option Value) (fa : Addr) (h : Heap), YP w h → (K w.params).In h → h.Ns mainGlobals mg → mg d.name = some (Value.ref fa) → LawAtG l w (K w.params) (CX w) k n x mg fa h)
    (hCX : ∀ (w : World) (H : Hp) (s : Shared) (e : Value) (s' : Shared), CX w [] H s (fun _ _ _ => False) e s' → False) :
    PySem.W.WalkO q loose XP YP l.row.toRowW d [] fun f vs => call f vs := by
  refine Att.attach_callB hn hdf fun w s₀ s₁ mg mb fa o pm cd doc a vs ns G Y ho hd hcd hmg hobj hints hlen hbits hg => ?_
  have KX := hY w s₁.heap Y
  obtain ⟨fd, cs, sp, hT, nT, C, hb, hsp, hF⟩ := F w mg fa s₁.heap Y KX G.T.g hmg
  exact law_callG KX G.T.g G.T.b G.T.builtins G.T.nolimit hg hT nT C G.T.bmain hobj hints (Nat.le_trans hlen hn2) hr hF hb (fun H hH hS => hsp H a ns hlen hbits hH hS) fun H e s' => hCX w H s₁ e s'
end L2

namespace L2
open PySem PySem.Spec PyProof.Rows
/-- the table of the def of a name is empty -/
def OwnN (K : PySem.W.Frag) (mg : Str → Option Value) (x : Str) (h : Heap) : Prop := ∀ (a c P : Addr) (o : Obj) (fd : FuncData) (e : Value) (dd : Option Addr) (vs : Array Value) (sl : Array (Option Value)), mg x = some (.ref a) → K.lookup a = some o → o.data = .func fd → fd.code = .ref c → K.lookup c = some ⟨e, dd, .fields vs, sl⟩ → vs[11]? = some (.ref P) →
  h.get? P = some { cls := .none, data := .fields #[] }
theorem walk_ofG2 {l : PySem.W.OpenLaw} {n k : Nat} {q : Program} {loose : List Str} {XP : (Str → Option Value) → Heap → Prop} {YP : World → Heap → Prop} {d : DefRec} {K : Params → PySem.W.Frag} {CX : World → CXT} {x y : Str}
    (hn : l.most = some n) (hn2 : n ≤ sizeLine) (hdf : d.params.defaults = []) (hr : Room k callerA) (hrec : ((recsOf q).any fun e => e.name == y) = true) (hY : ∀ (w : World) (h : Heap), YP w h → (K w.params).In h)
    (F : ∀ (w : World) (mg : Str → Option Value) (fa : Addr) (h : Heap), YP w h → (K w.params).In h → h.Ns mainGlobals mg → mg d.name = some (Value.ref fa) → OwnN (K w.params) mg y h → LawAtG l w (K w.params) (CX w) k n x mg fa h)
    (hCX : ∀ (w : World) (H : Hp) (s : Shared) (e : Value) (s' : Shared), CX w [] H s (fun _ _ _ => False) e s' → False) :
    PySem.W.WalkO q loose XP YP l.row.toRowW d [] fun f vs => call f vs := by
  refine Att.attach_callB hn hdf fun w s₀ s₁ mg mb fa o pm cd doc a vs ns G Y ho hd hcd hmg hobj hints hlen hbits hg => ?_
  have KX := hY w s₁.heap Y
  have own : OwnN (K w.params) mg y s₁.heap := fun a1 c P o1 fd1 e dd vs1 sl k0 k1 k2 k3 k4 k5 => by
    obtain ⟨dL, hm, hn1⟩ := List.any_eq_true.mp hrec
    have hn2 : dL.name = y := beq_iff_eq.mp hn1
    obtain ⟨a', o', fd', c', P', h1, h2, h3, h4, h5, h6⟩ := G.T.tab dL hm
    rw [hn2, k0] at h1
    cases h1
    have g1 := KX _ _ k1
    rw [g1] at h2
    cases h2
    rw [k2] at h3
    cases h3
    rw [k3] at h4
    cases h4
    obtain ⟨⟨oc, vc, e1, _, e3, e4⟩, hP⟩ := h6
    have g2 := KX _ _ k4
    rw [g2] at e1
    cases e1
    cases e3
    rw [k5] at e4
    cases e4
    exact hP
  obtain ⟨fd, cs, sp, hT, nT, C, hb, hsp, hF⟩ := F w mg fa s₁.heap Y KX G.T.g hmg own
  exact law_callG KX G.T.g G.T.b G.T.builtins G.T.nolimit hg hT nT C G.T.bmain hobj hints (Nat.le_trans hlen hn2) hr hF hb (fun H hH hS => hsp H a ns hlen hbits hH hS) fun H e s' => hCX w H s₁ e s'
end L2

/-! Pure data over the hand layer: what a reading gives, told by plain functions over PyData. -/
namespace Pd
open PySem L2 Evl

/-- what is known of the program: its written objects, the tables of code objects -/
structure PKt where
  K : PySem.W.Frag
  T : List (Addr × Str)
  /-- the lambdas that a def keeps: how many, their name, the j-th's object, by its place and its code's -/
  ln : Nat := 0
  lq : Str := ""
  lo : Nat → Addr → Addr → HO := fun _ _ _ => .lst []
instance : CoeOut PKt PySem.W.Frag := ⟨PKt.K⟩
/-- there is an object, and no table -/
def Th (H : Hp) (a : Addr) : Prop := ∃ o, H a = some o ∧ ∀ ps, o ≠ .tbl ps
theorem Th.of {H : Hp} {a : Addr} {o : HO} (h : H a = some o) (n : ∀ ps, o ≠ .tbl ps) : Th H a := ⟨o, h, n⟩
theorem Th.no {H : Hp} {a : Addr} (h : H a = none) : ¬ Th H a := fun ⟨o, e, _⟩ => by rw [h] at e; cases e
theorem Th.lst {H : Hp} {a : Addr} {xs : List V} (h : H a = some (HO.lst xs)) : Th H a := ⟨HO.lst xs, h, fun ps z => HO.noConfusion z⟩
theorem Th.upd {H : Hp} {p : Addr} {o : HO} (n : ∀ ps, o ≠ .tbl ps) {a : Addr} (h : Th H a) : Th (L2.upd H p o) a := by
  by_cases e : a = p
  · subst e; exact ⟨o, L2.upd_same, n⟩
  · obtain ⟨u, h1, h2⟩ := h
    exact ⟨u, by rw [L2.upd_ne e]; exact h1, h2⟩
/-- the same, and none that is told by its heap alone (a lambda, its code) -/
def Tl (H : Hp) (a : Addr) : Prop := ∃ o, H a = some o ∧ (∀ ps, o ≠ .tbl ps) ∧ ∀ φ, o ≠ .ext φ
theorem Tl.th {H : Hp} {a : Addr} (h : Tl H a) : Th H a := ⟨h.choose, h.choose_spec.1, h.choose_spec.2.1⟩
theorem Tl.lst {H : Hp} {a : Addr} {xs : List V} (h : H a = some (HO.lst xs)) : Tl H a := ⟨HO.lst xs, h, fun ps z => HO.noConfusion z, fun ps z => HO.noConfusion z⟩
theorem tabs_new {T : List (Addr × Str)} {H : Hp} {p : Addr} {o : HO} (hp : H p = Option.none) (t : LamX.Tabs T H) : LamX.Tabs T (L2.upd H p o) := t.ext fun b u h => by rw [L2.upd_ne (L2.ne_of_none h hp)]; exact h
theorem tabs_mut {T : List (Addr × Str)} {H : Hp} {p : Addr} {xs : List V} {o : HO} (hp : H p = Option.some (HO.lst xs)) (t : LamX.Tabs T H) : LamX.Tabs T (L2.upd H p o) := by
  intro q hq
  obtain ⟨ps, h1, h2, h3⟩ := t q hq
  refine ⟨ps, by rw [L2.upd_ne (fun e => by rw [e, hp] at h1; cases h1)]; exact h1, h2, fun pos cv hc => ?_⟩
  obtain ⟨c, e, hc⟩ := h3 pos cv hc
  exact ⟨c, e, by rw [L2.upd_ne (fun z => by rw [z, hp] at hc; cases hc)]; exact hc⟩
/-- no table stands in it -/
def Nt (F : Hp) : Prop := ∀ a ps, F a ≠ some (HO.tbl ps)
theorem Nt.upd {F : Hp} {p : Addr} {o : HO} (h : Nt F) (n : ∀ ps, o ≠ .tbl ps) : Nt (L2.upd F p o) := fun a ps z => by
  by_cases e : a = p
  · subst e
    rw [L2.upd_same] at z
    exact n ps (Option.some.inj z)
  · rw [L2.upd_ne e] at z
    exact h a ps z
theorem Nt.lst {F : Hp} {p : Addr} {xs : List V} (h : Nt F) : Nt (L2.upd F p (HO.lst xs)) := h.upd fun ps z => by cases z
/-- a tuple that stands in F, or is written -/
def TupZ (K : PySem.W.Frag) (F : Hp) (a : Addr) (xs : List V) : Prop := F a = some (HO.tup xs) ∨ ∃ o its n, List.lookup a K = some o ∧ o.cls = Value.type "tuple" ∧ o.data = Data.seq its n ∧ its.size ≤ sizeLine ∧ Vals xs its.toList
/-- a list that is looked at alone -/
def LstZ (K : PySem.W.Frag) (F : Hp) (a : Addr) (xs : List V) : Prop := SqL K F a xs
theorem TupZ.mono {K : PySem.W.Frag} {F F' : Hp} {a : Addr} {xs : List V} (e : Ex F F') (h : TupZ K F a xs) : TupZ K F' a xs := h.imp (fun h => e _ _ h) id
theorem TupZ.sq {K : PySem.W.Frag} {F H : Hp} {a : Addr} {xs : List V} (h : TupZ K F a xs) (e : Ex F H) : SqT K H a xs := h.imp (fun h => .inl (e _ _ h)) id
theorem LstZ.mono {K : PySem.W.Frag} {F F' : Hp} {a : Addr} {xs : List V} (e : Ex F F') (h : LstZ K F a xs) : LstZ K F' a xs := by
  rcases h with (h | ⟨u, h⟩) | h
  · exact .inl (.inl (e _ _ h))
  · exact .inl (.inr ⟨u, e _ _ h⟩)
  · exact .inr h
theorem LstZ.sq {K : PySem.W.Frag} {F H : Hp} {a : Addr} {xs : List V} (h : LstZ K F a xs) (e : Ex F H) : SqL K H a xs := LstZ.mono e h
/-! ### data that stands in a heap F -/
mutual
inductive Dq (K : PKt) (F : Hp) : V → PyData → Prop
  | non : Dq K F .non .none
  | bl (b : Bool) : Dq K F (.bl b) (.bool b)
  | int (i : Int) : Dq K F (.int i) (.int i)
  | str (x : Str) : Dq K F (.str x) (.str x)
  | lst {a : Addr} {xs : List V} {ds : List PyData} : F a = some (.lst xs) → DqAll K F xs ds → Dq K F (.ref a) (.list ds)
  | tup {a : Addr} {xs : List V} {ds : List PyData} : TupZ K.K F a xs → DqAll K F xs ds → Dq K F (.ref a) (.tuple ds)
  | scr {a : Addr} {xs : List V} {ds : List PyData} : LstZ K.K F a xs → DqAll K F xs ds → Dq K F (.ref a) (.dict [(.none, .list ds)])
  | lam {f c : Addr} {j : Nat} : j < K.ln → F f = some (K.lo j f c) → F c = some (LamX.CodeO c K.lq) → Dq K F (.ref f) (.dict [(.bool true, .int j)])
inductive DqAll (K : PKt) (F : Hp) : List V → List PyData → Prop
  | nil : DqAll K F [] []
  | cons {v : V} {vs : List V} {d : PyData} {ds : List PyData} : Dq K F v d → DqAll K F vs ds → DqAll K F (v :: vs) (d :: ds)
end
section
variable {K : PKt} {F F' : Hp}
mutual
theorem Dq.mono (e : Ex F F') : ∀ {v : V} {d : PyData}, Dq K F v d → Dq K F' v d
  | _, _, .non => .non
  | _, _, .bl b => .bl b
  | _, _, .int i => .int i
  | _, _, .str x => .str x
  | _, _, .lst h a => .lst (e _ _ h) (DqAll.mono e a)
  | _, _, .tup h a => .tup (h.mono e) (DqAll.mono e a)
  | _, _, .scr h a => .scr (h.mono e) (DqAll.mono e a)
  | _, _, .lam j h c => .lam j (e _ _ h) (e _ _ c)
theorem DqAll.mono (e : Ex F F') : ∀ {vs : List V} {ds : List PyData}, DqAll K F vs ds → DqAll K F' vs ds
  | _, _, .nil => .nil
  | _, _, .cons h t => .cons (Dq.mono e h) (DqAll.mono e t)
end
mutual
theorem Dq.dp : ∀ {v : V} {d : PyData}, Dq K F v d → d.canLay0 = true → Dp K.K F v d
  | _, _, .non, _ => .non
  | _, _, .bl b, _ => .bl b
  | _, _, .int i, _ => .int i
  | _, _, .str x, _ => .str x
  | _, _, .lst h a, e => .lst (SqL.of h) (DqAll.dp a e)
  | _, _, .tup h a, e => .tup (h.sq (Ex.refl F)) (DqAll.dp a e)
  | _, _, .scr _ _, e => by cases e
  | _, _, .lam _ _ _, e => by cases e
theorem DqAll.dp : ∀ {vs : List V} {ds : List PyData}, DqAll K F vs ds → PyData.canLayAll0 ds = true → DpAll K.K F vs ds
  | _, _, .nil, _ => .nil
  | _, _, .cons h t, e => by
    have e' : (_ && _) = true := e
    rw [Bool.and_eq_true] at e'
    exact .cons (Dq.dp h e'.1) (DqAll.dp t e'.2)
end
theorem Dq.dpS {v : V} {d : PyData} (h : Dq K F v d) (e : SeqAt.shaped d = true) : Dp K.K F v d := h.dp (by unfold SeqAt.shaped at e; rw [Bool.and_eq_true] at e; exact e.1)
theorem DqAll.length : ∀ {vs : List V} {ds : List PyData}, DqAll K F vs ds → vs.length = ds.length
  | _, _, .nil => rfl
  | _, _, .cons _ t => congrArg (· + 1) (DqAll.length t)
theorem DqAll.get : ∀ {vs : List V} {ds : List PyData} {i : Nat} {d : PyData}, DqAll K F vs ds → ds[i]? = some d → ∃ v, vs[i]? = some v ∧ Dq K F v d
  | _, _, _, _, .nil, e => by simp at e
  | _, _, 0, _, .cons h _, e => by simp at e; subst e; exact ⟨_, rfl, h⟩
  | _, _, i + 1, d, .cons _ t, e => by
    obtain ⟨v, h1, h2⟩ := DqAll.get (i := i) (d := d) t (by simpa using e)
    exact ⟨v, by simpa using h1, h2⟩
theorem DqAll.getv : ∀ {vs : List V} {ds : List PyData} {i : Nat} {v : V}, DqAll K F vs ds → vs[i]? = some v → ∃ d, ds[i]? = some d ∧ Dq K F v d
  | _, _, _, _, .nil, e => by simp at e
  | _, _, 0, _, .cons h _, e => by simp at e; subst e; exact ⟨_, rfl, h⟩
  | _, _, i + 1, d, .cons _ t, e => by
    obtain ⟨v, h1, h2⟩ := DqAll.getv (i := i) (v := d) t (by simpa using e)
    exact ⟨v, by simpa using h1, h2⟩
theorem DqAll.append : ∀ {vs ws : List V} {ds es : List PyData}, DqAll K F vs ds → DqAll K F ws es → DqAll K F (vs ++ ws) (ds ++ es)
  | _, _, _, _, .nil, s => s
  | _, _, _, _, .cons r t, s => .cons r (DqAll.append t s)
theorem DqAll.one {v : V} {d : PyData} (h : Dq K F v d) : DqAll K F [v] [d] := .cons h .nil
theorem DqAll.take : ∀ {vs : List V} {ds : List PyData} (n : Nat), DqAll K F vs ds → DqAll K F (vs.take n) (ds.take n)
  | _, _, 0, _ => .nil
  | _, _, _ + 1, .nil => .nil
  | _, _, n + 1, .cons r t => .cons r (DqAll.take n t)
theorem DqAll.drop : ∀ {vs : List V} {ds : List PyData} (n : Nat), DqAll K F vs ds → DqAll K F (vs.drop n) (ds.drop n)
  | _, _, 0, r => r
  | _, _, _ + 1, .nil => .nil
  | _, _, n + 1, .cons _ t => DqAll.drop n t
theorem DqAll.set {v : V} {d : PyData} (h : Dq K F v d) : ∀ {vs : List V} {ds : List PyData} (n : Nat), DqAll K F vs ds → DqAll K F (vs.set n v) (ds.set n d)
  | _, _, _, .nil => .nil
  | _, _, 0, .cons _ t => .cons h t
  | _, _, n + 1, .cons r t => .cons r (DqAll.set h n t)
theorem DqAll.reverse {vs : List V} {ds : List PyData} (h : DqAll K F vs ds) : DqAll K F vs.reverse ds.reverse := by
  induction ds generalizing vs with
  | nil => cases h; exact .nil
  | cons d ds ih =>
    cases h with
    | cons r t =>
      rw [List.reverse_cons, List.reverse_cons]
      exact (ih t).append (.one r)
theorem DqAll.rep {vs : List V} {ds : List PyData} (h : DqAll K F vs ds) : ∀ k : Nat, DqAll K F (List.replicate k vs).flatten (List.replicate k ds).flatten
  | 0 => .nil
  | k + 1 => by
    rw [List.replicate_succ, List.replicate_succ, List.flatten_cons, List.flatten_cons]
    exact h.append (DqAll.rep h k)
end

/-! ### slots -/
/-- what a name of the def holds: nothing known; data that nobody changes any more; a list of its own (orig: the very one that the def was handed) -/
inductive Sl where
  | no
  | fro (d : PyData)
  | own (orig : Bool) (ds : List PyData)
abbrev Rho := List Sl

structure RS (K : PKt) (F H : Hp) (σ : L2.St) (ρ : Rho) : Prop where
  len : ρ.length = σ.length
  tab : LamX.Tabs K.T H
  nt : Nt F
  ex : Ex F H
  fro : ∀ (i : Nat) (d : PyData), ρ[i]? = some (.fro d) → ∃ v, σ[i]? = some (some v) ∧ Dq K F v d
  own : ∀ (i : Nat) (t : Bool) (ds : List PyData), ρ[i]? = some (.own t ds) → ∃ a vs, σ[i]? = some (some (.ref a)) ∧ F a = none ∧ H a = some (.lst vs) ∧ DqAll K F vs ds
  apart : ∀ (i j : Nat) (t u : Bool) (ds es : List PyData) (a : Addr), i ≠ j → ρ[i]? = some (.own t ds) → ρ[j]? = some (.own u es) → σ[i]? = some (some (.ref a)) → σ[j]? = some (some (.ref a)) → False
def Ow (σ : L2.St) (ρ : Rho) (a : Addr) : Prop := ∃ (i : Nat) (t : Bool) (ds : List PyData), ρ[i]? = some (.own t ds) ∧ σ[i]? = some (some (.ref a))

structure Go (T : List (Addr × Str)) (O : Addr → Prop) (F H F' H' : Hp) : Prop where
  fr : Ex F F'
  ex : Ex F' H'
  keep : ∀ a o, H a = some o → (∀ ps, o ≠ .tbl ps) → ¬ O a → H' a = some o
  low : ∀ a, F a = none → Tl H a → ¬ O a → F' a = none
  tab : LamX.Tabs T H → LamX.Tabs T H'
  nt : Nt F → Nt F'
section
variable {T : List (Addr × Str)} {O O1 : Addr → Prop} {F H F1 H1 F2 H2 : Hp}
theorem Go.refl (e : Ex F H) : Go T O F H F H := ⟨Ex.refl F, e, fun _ _ h _ _ => h, fun _ h _ _ => h, id, id⟩
theorem Go.thr (a : Go T O F H F1 H1) {x : Addr} (h : Th H x) (n : ¬ O x) : Th H1 x := by
  obtain ⟨o, h1, h2⟩ := h
  exact ⟨o, a.keep x o h1 h2 n, h2⟩
theorem Go.thl (a : Go T O F H F1 H1) {x : Addr} (h : Tl H x) (n : ¬ O x) : Tl H1 x := by
  obtain ⟨o, h1, h2, h3⟩ := h
  exact ⟨o, a.keep x o h1 h2 n, h2, h3⟩
theorem Go.keepL (a : Go T O F H F1 H1) {x : Addr} {xs : List V} (h : H x = some (.lst xs)) (n : ¬ O x) : H1 x = some (.lst xs) := a.keep x _ h (fun ps z => by cases z) n
theorem Go.lowL (a : Go T O F H F1 H1) {x : Addr} {xs : List V} (f : F x = none) (h : H x = some (.lst xs)) (n : ¬ O x) : F1 x = none := a.low x f (Tl.lst h) n
theorem Go.trans (a : Go T O F H F1 H1) (b : Go T O1 F1 H1 F2 H2) (s : ∀ x, O1 x → O x ∨ ¬ Th H x) : Go T O F H F2 H2 := by
  have no1 : ∀ x, Th H x → ¬ O x → ¬ O1 x := fun x h1 h2 h3 => (s x h3).elim h2 fun z => z h1
  refine ⟨a.fr.trans b.fr, b.ex, fun x o h k n => ?_, fun x h1 h2 n => ?_, fun t => b.tab (a.tab t), fun h => b.nt (a.nt h)⟩
  · exact b.keep x o (a.keep x o h k n) k (no1 x ⟨o, h, k⟩ n)
  · exact b.low x (a.low x h1 h2 n) (a.thl h2 n) (no1 x h2.th n)
end
/-- behind an expression -/
structure Nx (K : PKt) (σ : L2.St) (ρ ρ' : Rho) (F H F' H' : Hp) : Prop where
  rs : RS K F' H' σ ρ'
  go : Go K.T (Ow σ ρ) F H F' H'
  sub : ∀ (i : Nat) (t : Bool) (ds : List PyData), ρ'[i]? = some (.own t ds) → ∃ es, ρ[i]? = some (.own t es)
  thr : ∀ a, Th H a → Th H' a
section
variable {K : PKt} {σ : L2.St} {ρ ρ1 ρ2 : Rho} {F H F1 H1 F2 H2 : Hp}
theorem Nx.ow (n : Nx K σ ρ ρ1 F H F1 H1) {a : Addr} (h : Ow σ ρ1 a) : Ow σ ρ a := by
  obtain ⟨i, t, ds, h1, h2⟩ := h
  obtain ⟨es, h3⟩ := n.sub i t ds h1
  exact ⟨i, t, es, h3, h2⟩
theorem Nx.refl (r : RS K F H σ ρ) : Nx K σ ρ ρ F H F H := ⟨r, Go.refl r.ex, fun _ _ ds h => ⟨ds, h⟩, fun _ h => h⟩
theorem Nx.trans (a : Nx K σ ρ ρ1 F H F1 H1) (b : Nx K σ ρ1 ρ2 F1 H1 F2 H2) : Nx K σ ρ ρ2 F H F2 H2 :=
  ⟨b.rs, a.go.trans b.go fun _ h => .inl (a.ow h), fun i t ds h => by
    obtain ⟨es, h1⟩ := b.sub i t ds h
    exact a.sub i t es h1, fun x h => b.thr x (a.thr x h)⟩
theorem RS.ow_there (r : RS K F H σ ρ) {a : Addr} (h : Ow σ ρ a) : Th H a := by
  obtain ⟨i, t, ds, h1, h2⟩ := h
  obtain ⟨b, vs, e1, e2, e3, e4⟩ := r.own i t ds h1
  rw [h2] at e1; cases e1
  exact Th.lst e3
theorem RS.ow_low (r : RS K F H σ ρ) {a : Addr} (h : Ow σ ρ a) : F a = none := by
  obtain ⟨i, t, ds, h1, h2⟩ := h
  obtain ⟨b, vs, e1, e2, e3, e4⟩ := r.own i t ds h1
  rw [h2] at e1; cases e1
  exact e2
/-- a new object that is frozen at once -/
theorem RS.new (r : RS K F H σ ρ) {p : Addr} {o : HO} (hp : H p = none) (nt : ∀ ps, o ≠ .tbl ps) : Nx K σ ρ ρ F H (upd F p o) (upd H p o) := by
  have fp : F p = none := fresh_back r.ex hp
  have nOw : ∀ a, Ow σ ρ a → a ≠ p := fun a h e => Th.no hp (by rw [← e]; exact r.ow_there h)
  refine ⟨⟨r.len, tabs_new hp r.tab, r.nt.upd nt, fun a u h => ?_, fun i d h => ?_, fun i t ds h => ?_, r.apart⟩, ⟨Ex.new fp, fun a u h => ?_, fun a u h _ _ => ?_, fun a h1 h2 _ => ?_, fun t => tabs_new hp t, fun h => h.upd nt⟩, fun _ _ ds h => ⟨ds, h⟩, fun a h => h.upd nt⟩
  · by_cases e : a = p
    · subst e; rw [upd_same] at h; rw [upd_same]; exact h
    · rw [upd_ne e] at h; rw [upd_ne e]; exact r.ex a u h
  · obtain ⟨v, h1, h2⟩ := r.fro i d h
    exact ⟨v, h1, h2.mono (Ex.new fp)⟩
  · obtain ⟨a, vs, h1, h2, h3, h4⟩ := r.own i t ds h
    have ne : a ≠ p := nOw a ⟨i, t, ds, h, h1⟩
    exact ⟨a, vs, h1, by rw [upd_ne ne]; exact h2, by rw [upd_ne ne]; exact h3, h4.mono (Ex.new fp)⟩
  · by_cases e : a = p
    · subst e; rw [upd_same] at h; rw [upd_same]; exact h
    · rw [upd_ne e] at h; rw [upd_ne e]; exact r.ex a u h
  · rw [upd_ne (ne_of_none h hp)]; exact h
  · rw [upd_ne (fun e => Th.no hp (by rw [← e]; exact h2.th))]; exact h1
/-- a new object that stays its maker's -/
theorem RS.newOwn (r : RS K F H σ ρ) {p : Addr} {o : HO} (hp : H p = none) (nt : ∀ ps, o ≠ .tbl ps) : Nx K σ ρ ρ F H F (upd H p o) := by
  have fp : F p = none := fresh_back r.ex hp
  have nOw : ∀ a, Ow σ ρ a → a ≠ p := fun a h e => Th.no hp (by rw [← e]; exact r.ow_there h)
  refine ⟨⟨r.len, tabs_new hp r.tab, r.nt, Ex.mut r.ex fp, r.fro, fun i t ds h => ?_, r.apart⟩, ⟨Ex.refl F, Ex.mut r.ex fp, fun a u h _ _ => ?_, fun a h1 h2 _ => h1, fun t => tabs_new hp t, id⟩, fun _ _ ds h => ⟨ds, h⟩, fun a h => h.upd nt⟩
  · obtain ⟨a, vs, h1, h2, h3, h4⟩ := r.own i t ds h
    exact ⟨a, vs, h1, h2, by rw [upd_ne (nOw a ⟨i, t, ds, h, h1⟩)]; exact h3, h4⟩
  · rw [upd_ne (ne_of_none h hp)]; exact h
/-- a list that is nobody's is frozen -/
theorem RS.freeze (r : RS K F H σ ρ) {p : Addr} {o : HO} (nt : ∀ ps, o ≠ .tbl ps) (hp : H p = some o) (fp : F p = none) (no : ¬ Ow σ ρ p) : RS K (upd F p o) H σ ρ := by
  refine ⟨r.len, r.tab, r.nt.upd nt, fun a u h => ?_, fun i d h => ?_, fun i t ds h => ?_, r.apart⟩
  · by_cases e : a = p
    · subst e; rw [upd_same] at h; rw [hp]; exact h
    · rw [upd_ne e] at h; exact r.ex a u h
  · obtain ⟨v, h1, h2⟩ := r.fro i d h
    exact ⟨v, h1, h2.mono (Ex.new fp)⟩
  · obtain ⟨a, vs, h1, h2, h3, h4⟩ := r.own i t ds h
    exact ⟨a, vs, h1, by rw [upd_ne (fun e => no (by rw [← e]; exact ⟨i, t, ds, h, h1⟩))]; exact h2, h3, h4.mono (Ex.new fp)⟩
end

end Pd

namespace Pd
open PySem L2 Evl
/-! ### outcomes -/
/-- the classes of errors by number, the field that each keeps -/
structure EC where
  C : Nat → Addr
  fld : Nat → Str
inductive Ou (α : Type) where
  | ok (a : α) (ρ : Rho)
  | ex (c : Nat) (d : PyData) (ρ : Rho)
def bnd {α β : Type} (x : Option (Ou α)) (k : α → Rho → Option (Ou β)) : Option (Ou β) := match x with
  | none => none
  | some (.ok a ρ) => k a ρ
  | some (.ex c d ρ) => some (.ex c d ρ)
theorem bnd_ok {α β : Type} (a : α) (ρ : Rho) (k : α → Rho → Option (Ou β)) : bnd (some (.ok a ρ)) k = k a ρ := rfl
/-- an error of number c that keeps d -/
def Xr (K : PKt) (ec : EC) (F H : Hp) (c : Nat) (d : PyData) (cls : Value) (dd : Option Addr) : Prop := cls = .ref (ec.C c) ∧ ∃ a v, dd = some a ∧ H a = some (.xd [(ec.fld c, v)]) ∧ Dq K F v d
def Fail (K : PKt) (ec : EC) (W : WX) (σ : L2.St) (ρ : Rho) (F H : Hp) {α : Type} (o : Ou α) : Prop :=
  ∀ (c : Nat) (d : PyData) (ρ1 : Rho), o = .ex c d ρ1 → ∀ (cls : Value) (dd : Option Addr) (F1 H1 : Hp), Nx K σ ρ ρ1 F H F1 H1 → Xr K ec F1 H1 c d cls dd → W cls dd σ H1
section
variable {K : PKt} {ec : EC} {W : WX} {σ : L2.St} {ρ ρ1 ρ2 : Rho} {F H F1 H1 F2 H2 : Hp} {α β : Type}
theorem Fail.step {o : Ou α} (h : Fail K ec W σ ρ F H o) (n : Nx K σ ρ ρ1 F H F1 H1) : Fail K ec W σ ρ1 F1 H1 o := fun c d ρ2 e cls dd F2 H2 m x => h c d ρ2 e cls dd F2 H2 (n.trans m) x
theorem Fail.ex {c : Nat} {d : PyData} {ρ1 : Rho} (h : Fail K ec W σ ρ F H (.ex c d ρ1 : Ou α)) : Fail K ec W σ ρ F H (.ex c d ρ1 : Ou β) := fun c' d' ρ' e => by
  cases e
  exact h c d ρ1 rfl
theorem Fail.ok {a : α} {ρ1 : Rho} : Fail K ec W σ ρ F H (.ok a ρ1) := fun c d ρ' e => by cases e
end
abbrev DE := Rho → Option (Ou PyData)
abbrev DL := Rho → Option (Ou (List PyData))
abbrev DB := Rho → Option (Ou Bool)
def Ed (K : PKt) (ec : EC) (W : WX) (te : TE) (f : DE) : Prop := ∀ (F H : Hp) (σ : L2.St) (ρ : Rho) (o : Ou PyData), RS K F H σ ρ → f ρ = some o → ∀ Q : VK,
  (∀ d ρ', o = .ok d ρ' → ∀ v F' H', Nx K σ ρ ρ' F H F' H' → Dq K F' v d → Q v H') → Fail K ec W σ ρ F H o → te σ H Q
/-- a new list -/
def Eo (K : PKt) (ec : EC) (W : WX) (te : TE) (f : DL) : Prop := ∀ (F H : Hp) (σ : L2.St) (ρ : Rho) (o : Ou (List PyData)), RS K F H σ ρ → f ρ = some o → ∀ Q : VK,
  (∀ ds ρ', o = .ok ds ρ' → ∀ a vs F' H', Nx K σ ρ ρ' F H F' H' → ¬ Th H a → F' a = none → H' a = some (.lst vs) → DqAll K F' vs ds → Q (.ref a) H') → Fail K ec W σ ρ F H o → te σ H Q
def Et (K : PKt) (ec : EC) (W : WX) (tt : TT) (f : DB) : Prop := ∀ (F H : Hp) (σ : L2.St) (ρ : Rho) (o : Ou Bool), RS K F H σ ρ → f ρ = some o → ∀ Q : Bool → Hp → Prop,
  (∀ b ρ', o = .ok b ρ' → ∀ F' H', Nx K σ ρ ρ' F H F' H' → Q b H') → Fail K ec W σ ρ F H o → tt σ H Q
def Ea (K : PKt) (ec : EC) (W : WX) (ta : TA) (f : DL) : Prop := ∀ (F H : Hp) (σ : L2.St) (ρ : Rho) (o : Ou (List PyData)), RS K F H σ ρ → f ρ = some o → ∀ Q : List V → Hp → Prop,
  (∀ ds ρ', o = .ok ds ρ' → ∀ vs F' H', Nx K σ ρ ρ' F H F' H' → DqAll K F' vs ds → Q vs H') → Fail K ec W σ ρ F H o → ta σ H Q
section
variable {K : PKt} {ec : EC} {W : WX} {te ta tb tc : TE} {tt tu : TT} {tl : TA} {f g h : DE} {fb gb : DB} {fl gl : DL} {β : Type} {F H : Hp} {σ : L2.St} {ρ : Rho} {o : Ou β}
theorem Ed.go (hh : Ed K ec W te f) (rs : RS K F H σ ρ) {k : PyData → Rho → Option (Ou β)} (e : bnd (f ρ) k = some o) (fl : Fail K ec W σ ρ F H o) {Q : VK}
    (hk : ∀ d ρ1 v F1 H1, Nx K σ ρ ρ1 F H F1 H1 → Dq K F1 v d → k d ρ1 = some o → Fail K ec W σ ρ1 F1 H1 o → Q v H1) : te σ H Q := by
  unfold bnd at e
  cases ef : f ρ with
  | none => rw [ef] at e; cases e
  | some x =>
    rw [ef] at e
    cases x with
    | ok d ρ1 => exact hh F H σ ρ _ rs ef Q (fun d' ρ' e' v F' H' n dv => by cases e'; exact hk d ρ1 v F' H' n dv e (fl.step n)) Fail.ok
    | ex c d ρ1 => cases e; exact hh F H σ ρ _ rs ef Q (fun d' ρ' e' => by cases e') fl.ex
theorem Eo.go (hh : Eo K ec W te fl) (rs : RS K F H σ ρ) {k : List PyData → Rho → Option (Ou β)} (e : bnd (fl ρ) k = some o) (hf : Fail K ec W σ ρ F H o) {Q : VK}
    (hk : ∀ ds ρ1 a vs F1 H1, Nx K σ ρ ρ1 F H F1 H1 → ¬ Th H a → F1 a = none → H1 a = some (.lst vs) → DqAll K F1 vs ds → k ds ρ1 = some o → Fail K ec W σ ρ1 F1 H1 o → Q (.ref a) H1) : te σ H Q := by
  unfold bnd at e
  cases ef : fl ρ with
  | none => rw [ef] at e; cases e
  | some x =>
    rw [ef] at e
    cases x with
    | ok d ρ1 => exact hh F H σ ρ _ rs ef Q (fun d' ρ' e' a vs F' H' n h1 h2 h3 h4 => by cases e'; exact hk d ρ1 a vs F' H' n h1 h2 h3 h4 e (hf.step n)) Fail.ok
    | ex c d ρ1 => cases e; exact hh F H σ ρ _ rs ef Q (fun d' ρ' e' => by cases e') hf.ex
theorem Et.go (hh : Et K ec W tt fb) (rs : RS K F H σ ρ) {k : Bool → Rho → Option (Ou β)} (e : bnd (fb ρ) k = some o) (hf : Fail K ec W σ ρ F H o) {Q : Bool → Hp → Prop}
    (hk : ∀ b ρ1 F1 H1, Nx K σ ρ ρ1 F H F1 H1 → k b ρ1 = some o → Fail K ec W σ ρ1 F1 H1 o → Q b H1) : tt σ H Q := by
  unfold bnd at e
  cases ef : fb ρ with
  | none => rw [ef] at e; cases e
  | some x =>
    rw [ef] at e
    cases x with
    | ok d ρ1 => exact hh F H σ ρ _ rs ef Q (fun d' ρ' e' F' H' n => by cases e'; exact hk d ρ1 F' H' n e (hf.step n)) Fail.ok
    | ex c d ρ1 => cases e; exact hh F H σ ρ _ rs ef Q (fun d' ρ' e' => by cases e') hf.ex
theorem Ea.go (hh : Ea K ec W tl fl) (rs : RS K F H σ ρ) {k : List PyData → Rho → Option (Ou β)} (e : bnd (fl ρ) k = some o) (hf : Fail K ec W σ ρ F H o) {Q : List V → Hp → Prop}
    (hk : ∀ ds ρ1 vs F1 H1, Nx K σ ρ ρ1 F H F1 H1 → DqAll K F1 vs ds → k ds ρ1 = some o → Fail K ec W σ ρ1 F1 H1 o → Q vs H1) : tl σ H Q := by
  unfold bnd at e
  cases ef : fl ρ with
  | none => rw [ef] at e; cases e
  | some x =>
    rw [ef] at e
    cases x with
    | ok d ρ1 => exact hh F H σ ρ _ rs ef Q (fun d' ρ' e' vs F' H' n dv => by cases e'; exact hk d ρ1 vs F' H' n dv e (hf.step n)) Fail.ok
    | ex c d ρ1 => cases e; exact hh F H σ ρ _ rs ef Q (fun d' ρ' e' => by cases e') hf.ex
/-- the end of a rule: a value that stands already; a new object -/
theorem fin {d : PyData} {v : V} (rs : RS K F H σ ρ) {o : Ou PyData} (e : (some (.ok d ρ) : Option (Ou PyData)) = some o) {Q : VK} (hq : ∀ d ρ', o = .ok d ρ' → ∀ v F' H', Nx K σ ρ ρ' F H F' H' → Dq K F' v d → Q v H') (dv : Dq K F v d) : Q v H := by
  cases e
  exact hq d ρ rfl v F H (Nx.refl rs) dv
theorem finN {d : PyData} {p : Addr} {ob : HO} (nt : ∀ ps, ob ≠ .tbl ps) (rs : RS K F H σ ρ) {o : Ou PyData} (e : (some (.ok d ρ) : Option (Ou PyData)) = some o) {Q : VK} (hq : ∀ d ρ', o = .ok d ρ' → ∀ v F' H', Nx K σ ρ ρ' F H F' H' → Dq K F' v d → Q v H') (hp : H p = none) (dv : Dq K (upd F p ob) (.ref p) d) : Q (.ref p) (upd H p ob) := by
  cases e
  exact hq d ρ rfl _ _ _ (rs.new hp nt) dv
theorem step_q {ρ1 : Rho} {F1 H1 : Hp} {o : Ou PyData} {Q : VK} (n : Nx K σ ρ ρ1 F H F1 H1) (hq : ∀ d ρ', o = .ok d ρ' → ∀ v F' H', Nx K σ ρ ρ' F H F' H' → Dq K F' v d → Q v H') : ∀ d ρ', o = .ok d ρ' → ∀ v F' H', Nx K σ ρ1 ρ' F1 H1 F' H' → Dq K F' v d → Q v H' :=
  fun d ρ' e v F' H' m dv => hq d ρ' e v F' H' (n.trans m) dv
/-! ### expressions -/
def listM (f : DL) : DE := fun ρ => bnd (f ρ) fun ds ρ1 => some (.ok (.list ds) ρ1)
theorem Eo.ed (hh : Eo K ec W te fl) : Ed K ec W te (listM fl) := by
  intro F H σ ρ o r e Q q hf
  refine hh.go r e hf fun ds ρ1 a vs F1 H1 n ha fa h1 da e1 _ => ?_
  cases e1
  have no : ¬ Ow σ ρ1 a := fun w => ha (r.ow_there (n.ow w))
  have nf := Ex.new (o := HO.lst vs) fa
  refine q _ _ rfl (.ref a) (upd F1 a (.lst vs)) H1 ⟨n.rs.freeze (fun ps z => by cases z) h1 fa no, ⟨n.go.fr.trans nf, (n.rs.freeze (fun ps z => by cases z) h1 fa no).ex, n.go.keep, fun b h1 h2 h3 => ?_, n.go.tab, fun h => (n.go.nt h).lst⟩, n.sub, n.thr⟩ (.lst upd_same (da.mono nf))
  rw [upd_ne (fun e => ha (by rw [← e]; exact h2.th))]
  exact n.go.low b h1 h2 h3
def varM (i : Nat) : DE := fun ρ => match ρ[i]? with | some (.fro d) => some (.ok d ρ) | _ => none
theorem ed_var {i : Nat} : Ed K ec W (tVar i) (varM i) := by
  intro F H σ ρ o r e Q q hf
  unfold varM at e
  split at e
  · rename_i d0 h0
    obtain ⟨v, h1, h2⟩ := r.fro i _ h0
    exact ⟨v, h1, fin r e q h2⟩
  · cases e
/-- a name's own list, let go -/
def letM (i : Nat) : DE := fun ρ => match ρ[i]? with | some (.own _ ds) => some (.ok (.list ds) (ρ.set i (.fro (.list ds)))) | some (.fro d) => some (.ok d ρ) | _ => none
theorem ed_let {i : Nat} : Ed K ec W (tVar i) (letM i) := by
  intro F H σ ρ o r e Q q hf
  unfold letM at e
  split at e
  · rename_i t ds h0
    cases e
    obtain ⟨a, vs, h1, h2, h3, h4⟩ := r.own i t ds h0
    have hi : i < ρ.length := (List.getElem?_eq_some_iff.mp h0).1
    have nf := Ex.new (o := HO.lst vs) h2
    have ap : ∀ (j : Nat) (u : Bool) (es : List PyData) (b : Addr) , j ≠ i → ρ[j]? = some (.own u es) → σ[j]? = some (some (.ref b)) → b ≠ a := fun j u es b hj e1 e2 e3 => by
      subst e3
      exact r.apart i j t u ds es b (Ne.symm hj) h0 e1 h1 e2
    have get : ∀ {j : Nat} {s : Sl}, (ρ.set i (.fro (.list ds)))[j]? = some s → (j = i ∧ s = .fro (.list ds)) ∨ (j ≠ i ∧ ρ[j]? = some s) := fun {j s} e => by
      by_cases hj : j = i
      · subst hj
        rw [List.getElem?_set_self hi] at e
        cases e
        exact .inl ⟨rfl, rfl⟩
      · rw [List.getElem?_set_ne (Ne.symm hj)] at e
        exact .inr ⟨hj, e⟩
    refine ⟨.ref a, h1, q _ _ rfl (.ref a) (upd F a (.lst vs)) H ⟨⟨?_, r.tab, r.nt.lst, fun b u hb => ?_, fun j d hj => ?_, fun j u es hj => ?_, fun j k u w es ws b hjk e1 e2 => ?_⟩, ⟨nf, fun b u hb => ?_, fun _ _ x _ _ => x, fun b x1 x2 x3 => ?_, id, fun h => h.lst⟩, fun j u es hj => ?_, fun _ x => x⟩ (.lst upd_same (h4.mono nf))⟩
    · rw [List.length_set]; exact r.len
    · by_cases hb' : b = a
      · subst hb'; rw [upd_same] at hb; rw [h3]; exact hb
      · rw [upd_ne hb'] at hb; exact r.ex b u hb
    · rcases get hj with ⟨rfl, hd⟩ | ⟨_, hj⟩
      · cases hd
        exact ⟨.ref a, h1, .lst upd_same (h4.mono nf)⟩
      · obtain ⟨v, x1, x2⟩ := r.fro j d hj
        exact ⟨v, x1, x2.mono nf⟩
    · rcases get hj with ⟨rfl, hd⟩ | ⟨hne, hj⟩
      · cases hd
      · obtain ⟨b, ws, x1, x2, x3, x4⟩ := r.own j u es hj
        exact ⟨b, ws, x1, by rw [upd_ne (ap j u es b hne hj x1)]; exact x2, x3, x4.mono nf⟩
    · rcases get e1 with ⟨rfl, hd⟩ | ⟨_, e1⟩
      · cases hd
      · rcases get e2 with ⟨rfl, hd⟩ | ⟨_, e2⟩
        · cases hd
        · exact r.apart j k u w es ws b hjk e1 e2
    · by_cases hb' : b = a
      · subst hb'; rw [upd_same] at hb; rw [h3]; exact hb
      · rw [upd_ne hb'] at hb; exact r.ex b u hb
    · rw [upd_ne (fun e => x3 (by rw [e]; exact ⟨i, t, ds, h0, h1⟩))]; exact x1
    · rcases get hj with ⟨rfl, hd⟩ | ⟨_, hj⟩
      · cases hd
      · exact ⟨es, hj⟩
  · rename_i d0 h0
    obtain ⟨v, h1, h2⟩ := r.fro i _ h0
    exact ⟨v, h1, fin r e q h2⟩
  · cases e
def conM (d : PyData) : DE := fun ρ => some (.ok d ρ)
theorem ed_con {v : V} {d : PyData} (h : ∀ F, Dq K F v d) : Ed K ec W (tC v) (conM d) := by
  intro F H σ ρ o r e Q q hf
  exact fin r e q (h F)
theorem ed_int {i : Int} : Ed K ec W (tC (.int i)) (conM (.int i)) := ed_con fun _ => .int i
theorem ed_bl {b : Bool} : Ed K ec W (tC (.bl b)) (conM (.bool b)) := ed_con fun _ => .bl b
theorem ed_non : Ed K ec W (tC .non) (conM .none) := ed_con fun _ => .non
theorem ed_str {x : Str} : Ed K ec W (tC (.str x)) (conM (.str x)) := ed_con fun _ => .str x
/-! ### operations by values -/
def OpD (K : PKt) (r : R2) (op : PyData → PyData → Option PyData) : Prop := ∀ (F H : Hp) (v w : V) (a b d : PyData), Ex F H → Dq K F v a → Dq K F w b → op a b = some d → ∀ Q : VK,
  (∀ u, Dq K F u d → Q u H) → (∀ p ob, (∀ ps, ob ≠ .tbl ps) → H p = none → Dq K (upd F p ob) (.ref p) d → Q (.ref p) (upd H p ob)) → r v w H Q
def opM (op : PyData → PyData → Option PyData) (f g : DE) : DE := fun ρ => bnd (f ρ) fun a ρ1 => bnd (g ρ1) fun b ρ2 => (op a b).map fun d => .ok d ρ2
theorem ed_op {r : R2} {op : PyData → PyData → Option PyData} (hr : OpD K r op) (ha : Ed K ec W ta f) (hb : Ed K ec W tb g) : Ed K ec W (tOp r ta tb) (opM op f g) := by
  intro F H σ ρ o rs e Q q hf
  refine ha.go rs e hf fun a ρ1 v F1 H1 n1 dv e1 hf1 => ?_
  refine hb.go n1.rs e1 hf1 fun b ρ2 w F2 H2 n2 dw e2 hf2 => ?_
  cases eo : op a b with
  | none => rw [eo] at e2; cases e2
  | some d =>
    rw [eo] at e2
    exact hr F2 H2 v w a b d n2.rs.ex (dv.mono n2.go.fr) dw eo Q (fun u du => fin n2.rs e2 (step_q (n1.trans n2) q) du) fun p ob nt hp dp => finN nt n2.rs e2 (step_q (n1.trans n2) q) hp dp
/-- one-place -/
def UnD (K : PKt) (r : V → Hp → VK → Prop) (op : PyData → Option PyData) : Prop := ∀ (F H : Hp) (v : V) (a d : PyData), Ex F H → Dq K F v a → op a = some d → ∀ Q : VK, (∀ u, Dq K F u d → Q u H) → (∀ p ob, (∀ ps, ob ≠ .tbl ps) → H p = none → Dq K (upd F p ob) (.ref p) d → Q (.ref p) (upd H p ob)) → r v H Q
def unM (op : PyData → Option PyData) (f : DE) : DE := fun ρ => bnd (f ρ) fun a ρ1 => (op a).map fun d => .ok d ρ1
theorem ed_un {r : V → Hp → VK → Prop} {op : PyData → Option PyData} (hr : UnD K r op) (ha : Ed K ec W ta f) : Ed K ec W (tUn r ta) (unM op f) := by
  intro F H σ ρ o rs e Q q hf
  refine ha.go rs e hf fun a ρ1 v F1 H1 n1 dv e1 hf1 => ?_
  cases eo : op a with
  | none => rw [eo] at e1; cases e1
  | some d =>
    rw [eo] at e1
    exact hr F1 H1 v a d n1.rs.ex dv eo Q (fun u du => fin n1.rs e1 (step_q n1 q) du) fun p ob nt hp dp => finN nt n1.rs e1 (step_q n1 q) hp dp
/-- calls of built-ins by values -/
def CaD (K : PKt) (r : List V → Hp → VK → Prop) (op : List PyData → Option PyData) : Prop := ∀ (F H : Hp) (vs : List V) (as : List PyData) (d : PyData), Ex F H → DqAll K F vs as → op as = some d → ∀ Q : VK, (∀ u, Dq K F u d → Q u H) → (∀ p ob, (∀ ps, ob ≠ .tbl ps) → H p = none → Dq K (upd F p ob) (.ref p) d → Q (.ref p) (upd H p ob)) → r vs H Q
def caM (op : List PyData → Option PyData) (f : DL) : DE := fun ρ => bnd (f ρ) fun as ρ1 => (op as).map fun d => .ok d ρ1
theorem ed_ca {r : List V → Hp → VK → Prop} {op : List PyData → Option PyData} (hr : CaD K r op) (ha : Ea K ec W tl fl) : Ed K ec W (tCB r tl) (caM op fl) := by
  intro F H σ ρ o rs e Q q hf
  refine ha.go rs e hf fun as ρ1 vs F1 H1 n1 dv e1 hf1 => ?_
  cases eo : op as with
  | none => rw [eo] at e1; cases e1
  | some d =>
    rw [eo] at e1
    exact hr F1 H1 vs as d n1.rs.ex dv eo Q (fun u du => fin n1.rs e1 (step_q n1 q) du) fun p ob nt hp dp => finN nt n1.rs e1 (step_q n1 q) hp dp
/-! ### arguments, displays -/
def nilM : DL := fun ρ => some (.ok [] ρ)
def consM (f : DE) (g : DL) : DL := fun ρ => bnd (f ρ) fun a ρ1 => bnd (g ρ1) fun as ρ2 => some (.ok (a :: as) ρ2)
theorem ea_nil : Ea K ec W tNil nilM := by
  intro F H σ ρ o rs e Q q hf
  cases e
  exact q [] ρ rfl [] F H (Nx.refl rs) .nil
theorem ea_cons (ha : Ed K ec W ta f) (hr : Ea K ec W tl fl) : Ea K ec W (tCons ta tl) (consM f fl) := by
  intro F H σ ρ o rs e Q q hf
  refine ha.go rs e hf fun a ρ1 v F1 H1 n1 dv e1 hf1 => ?_
  refine hr.go n1.rs e1 hf1 fun as ρ2 vs F2 H2 n2 ds e2 hf2 => ?_
  cases e2
  exact q _ _ rfl _ F2 H2 (n1.trans n2) (.cons (dv.mono n2.go.fr) ds)
def tupM (f : DL) : DE := fun ρ => bnd (f ρ) fun as ρ1 => if as.length ≤ 100000 then some (.ok (.tuple as) ρ1) else none
theorem ed_tup (ha : Ea K ec W tl fl) : Ed K ec W (tTup tl) (tupM fl) := by
  intro F H σ ρ o rs e Q q hf
  refine ha.go rs e hf fun as ρ1 vs F1 H1 n1 ds e1 hf1 => ?_
  split at e1
  · rename_i hz
    refine ⟨by rw [ds.length]; exact sz_of hz, fun p hp => ?_⟩
    exact finN (fun ps z => by cases z) n1.rs e1 (step_q n1 q) hp (.tup (.inl upd_same) (ds.mono (Ex.new (fresh_back n1.rs.ex hp))))
  · cases e1
def lstM (f : DL) : DL := fun ρ => bnd (f ρ) fun as ρ1 => if as.length ≤ 100000 then some (.ok as ρ1) else none
theorem eo_lst (ha : Ea K ec W tl fl) : Eo K ec W (tLst tl) (lstM fl) := by
  intro F H σ ρ o rs e Q q hf
  refine ha.go rs e hf fun as ρ1 vs F1 H1 n1 ds e1 hf1 => ?_
  split at e1
  · rename_i hz
    cases e1
    refine ⟨by rw [ds.length]; exact sz_of hz, fun p hp => ?_⟩
    exact q _ _ rfl p vs F1 _ (n1.trans (n1.rs.newOwn hp fun ps z => by cases z)) (fun z => Th.no hp (n1.thr p z)) (fresh_back n1.rs.ex hp) upd_same ds
  · cases e1
/-! ### tests, and, or, not, if -/
def boolM (f : DE) : DB := fun ρ => bnd (f ρ) fun d ρ1 => match d with | .bool b => some (.ok b ρ1) | _ => none
theorem et_B (ha : Ed K ec W te f) : Et K ec W (tB te) (boolM f) := by
  intro F H σ ρ o rs e Q q hf
  refine ha.go rs e hf fun d ρ1 v F1 H1 n1 dv e1 hf1 => ?_
  cases dv with
  | bl b => cases e1; exact ⟨b, rfl, q _ _ rfl F1 H1 n1⟩
  | _ => cases e1
theorem et_test (ha : Ed K ec W te f) : Et K ec W (tTest te) (boolM f) := by
  intro F H σ ρ o rs e Q q hf
  refine ha.go rs e hf fun d ρ1 v F1 H1 n1 dv e1 hf1 => ?_
  cases dv with
  | bl b => cases e1; exact ⟨b, rfl, q _ _ rfl F1 H1 n1⟩
  | _ => cases e1
def andB (f g : DB) : DB := fun ρ => bnd (f ρ) fun b ρ1 => if b then g ρ1 else some (.ok false ρ1)
def orB (f g : DB) : DB := fun ρ => bnd (f ρ) fun b ρ1 => if b then some (.ok true ρ1) else g ρ1
def notB (f : DB) : DB := fun ρ => bnd (f ρ) fun b ρ1 => some (.ok (!b) ρ1)
theorem et_and (ha : Et K ec W tt fb) (hb : Et K ec W tu gb) : Et K ec W (tAnd tt tu) (andB fb gb) := by
  intro F H σ ρ o rs e Q q hf
  refine ha.go rs e hf fun b ρ1 F1 H1 n1 e1 hf1 => ?_
  cases b with
  | true => exact hb F1 H1 σ ρ1 o n1.rs e1 Q (fun b ρ' ee F' H' m => q b ρ' ee F' H' (n1.trans m)) hf1
  | false => cases e1; exact q _ _ rfl F1 H1 n1
theorem et_or (ha : Et K ec W tt fb) (hb : Et K ec W tu gb) : Et K ec W (tOr tt tu) (orB fb gb) := by
  intro F H σ ρ o rs e Q q hf
  refine ha.go rs e hf fun b ρ1 F1 H1 n1 e1 hf1 => ?_
  cases b with
  | false => exact hb F1 H1 σ ρ1 o n1.rs e1 Q (fun b ρ' ee F' H' m => q b ρ' ee F' H' (n1.trans m)) hf1
  | true => cases e1; exact q _ _ rfl F1 H1 n1
theorem et_not (ha : Et K ec W tt fb) : Et K ec W (tNot tt) (notB fb) := by
  intro F H σ ρ o rs e Q q hf
  refine ha.go rs e hf fun b ρ1 F1 H1 n1 e1 hf1 => ?_
  cases e1
  exact q _ _ rfl F1 H1 n1
/-- as values -/
def andV (f g : DE) : DE := fun ρ => bnd (f ρ) fun d ρ1 => match d with | .bool true => g ρ1 | .bool false => some (.ok (.bool false) ρ1) | _ => none
def orV (f g : DE) : DE := fun ρ => bnd (f ρ) fun d ρ1 => match d with | .bool false => g ρ1 | .bool true => some (.ok (.bool true) ρ1) | _ => none
def notV (f : DE) : DE := fun ρ => bnd (f ρ) fun d ρ1 => match d with | .bool b => some (.ok (.bool (!b)) ρ1) | _ => none
theorem ed_and (ha : Ed K ec W ta f) (hb : Ed K ec W tb g) : Ed K ec W (tAndV ta tb) (andV f g) := by
  intro F H σ ρ o rs e Q q hf
  refine ha.go rs e hf fun d ρ1 v F1 H1 n1 dv e1 hf1 => ?_
  cases dv with
  | bl b =>
    cases b with
    | true => exact ⟨true, rfl, hb F1 H1 σ ρ1 o n1.rs e1 Q (step_q n1 q) hf1⟩
    | false => exact ⟨false, rfl, fin n1.rs e1 (step_q n1 q) (.bl false)⟩
  | _ => cases e1
theorem ed_or (ha : Ed K ec W ta f) (hb : Ed K ec W tb g) : Ed K ec W (tOrV ta tb) (orV f g) := by
  intro F H σ ρ o rs e Q q hf
  refine ha.go rs e hf fun d ρ1 v F1 H1 n1 dv e1 hf1 => ?_
  cases dv with
  | bl b =>
    cases b with
    | false => exact ⟨false, rfl, hb F1 H1 σ ρ1 o n1.rs e1 Q (step_q n1 q) hf1⟩
    | true => exact ⟨true, rfl, fin n1.rs e1 (step_q n1 q) (.bl true)⟩
  | _ => cases e1
theorem ed_not (ha : Ed K ec W ta f) : Ed K ec W (tNotV ta) (notV f) := by
  intro F H σ ρ o rs e Q q hf
  refine ha.go rs e hf fun d ρ1 v F1 H1 n1 dv e1 hf1 => ?_
  cases dv with
  | bl b => exact ⟨b, rfl, fin n1.rs e1 (step_q n1 q) (.bl (!b))⟩
  | _ => cases e1
def ifM (t : DB) (f g : DE) : DE := fun ρ => bnd (t ρ) fun b ρ1 => if b then f ρ1 else g ρ1
theorem ed_if (ht : Et K ec W tt fb) (ha : Ed K ec W ta f) (hb : Ed K ec W tb g) : Ed K ec W (tIf tt ta tb) (ifM fb f g) := by
  intro F H σ ρ o rs e Q q hf
  refine ht.go rs e hf fun b ρ1 F1 H1 n1 e1 hf1 => ?_
  cases b with
  | true => exact ha F1 H1 σ ρ1 o n1.rs e1 Q (step_q n1 q) hf1
  | false => exact hb F1 H1 σ ρ1 o n1.rs e1 Q (step_q n1 q) hf1
end
end Pd

namespace Pd
open PySem L2 Evl
/-! ### statements -/
structure Sx (K : PKt) (σ : L2.St) (ρ : Rho) (σ' : L2.St) (ρ' : Rho) (F H F' H' : Hp) : Prop where
  rs : RS K F' H' σ' ρ'
  go : Go K.T (Ow σ ρ) F H F' H'
  sub : ∀ (i : Nat) (t : Bool) (ds : List PyData), ρ'[i]? = some (.own t ds) → (∃ es, ρ[i]? = some (.own t es) ∧ σ'[i]? = σ[i]?) ∨ (t = false ∧ ∃ a, σ'[i]? = some (some (.ref a)) ∧ ¬ Th H a)
  thr : ∀ a, Th H a → Th H' a
  len : σ'.length = σ.length
section
variable {K : PKt} {σ σ1 σ2 : L2.St} {ρ ρ1 ρ2 : Rho} {F H F1 H1 F2 H2 : Hp}
theorem Nx.sx (n : Nx K σ ρ ρ1 F H F1 H1) : Sx K σ ρ σ ρ1 F H F1 H1 := ⟨n.rs, n.go, fun i t ds h => .inl ((n.sub i t ds h).elim fun es e => ⟨es, e, rfl⟩), n.thr, rfl⟩
theorem Sx.ow (a : Sx K σ ρ σ1 ρ1 F H F1 H1) {x : Addr} (h : Ow σ1 ρ1 x) : Ow σ ρ x ∨ ¬ Th H x := by
  obtain ⟨i, t, ds, h1, h2⟩ := h
  rcases a.sub i t ds h1 with ⟨es, e1, e2⟩ | ⟨_, b, e1, e2⟩
  · exact .inl ⟨i, t, es, e1, by rw [← e2]; exact h2⟩
  · rw [h2] at e1
    cases e1
    exact .inr e2
theorem Sx.trans (a : Sx K σ ρ σ1 ρ1 F H F1 H1) (b : Sx K σ1 ρ1 σ2 ρ2 F1 H1 F2 H2) : Sx K σ ρ σ2 ρ2 F H F2 H2 := by
  refine ⟨b.rs, a.go.trans b.go fun x h => a.ow h, fun i t ds h => ?_, fun x h => b.thr x (a.thr x h), b.len.trans a.len⟩
  rcases b.sub i t ds h with ⟨es, e1, e2⟩ | ⟨et, x, e1, e2⟩
  · rcases a.sub i t es e1 with ⟨es', e3, e4⟩ | ⟨et, x, e3, e4⟩
    · exact .inl ⟨es', e3, e2.trans e4⟩
    · exact .inr ⟨et, x, e2.trans e3, e4⟩
  · exact .inr ⟨et, x, e1, fun z => e2 (a.thr x z)⟩
end
theorem get_set {α : Type} {l : List α} {i j : Nat} {x y : α} (h : (l.set i x)[j]? = some y) : (j = i ∧ y = x ∧ i < l.length) ∨ (j ≠ i ∧ l[j]? = some y) := by
  by_cases hj : j = i
  · subst hj
    by_cases hl : j < l.length
    · rw [List.getElem?_set_self hl] at h
      cases h
      exact .inl ⟨rfl, rfl, hl⟩
    · rw [List.getElem?_eq_none (by rw [List.length_set]; omega)] at h
      cases h
  · rw [List.getElem?_set_ne (Ne.symm hj)] at h
    exact .inr ⟨hj, h⟩
section
variable {K : PKt} {σ : L2.St} {ρ : Rho} {F H : Hp}
/-- a name is stored: data -/
theorem RS.setF (r : RS K F H σ ρ) {i : Nat} {v : V} {d : PyData} (dv : Dq K F v d) : Sx K σ ρ (σ.set i (some v)) (ρ.set i (.fro d)) F H F H := by
  refine ⟨⟨by rw [List.length_set, List.length_set]; exact r.len, r.tab, r.nt, r.ex, fun j e h => ?_, fun j t ds h => ?_, fun j k t u ds es a hjk h1 h2 h3 h4 => ?_⟩, Go.refl r.ex, fun j t ds h => ?_, fun _ h => h, List.length_set ..⟩
  · rcases get_set h with ⟨rfl, e', hl⟩ | ⟨hj, h⟩
    · cases e'
      exact ⟨v, by rw [List.getElem?_set_self (by rw [← r.len]; exact hl)], dv⟩
    · rw [List.getElem?_set_ne (Ne.symm hj)]
      exact r.fro j e h
  · rcases get_set h with ⟨rfl, e', hl⟩ | ⟨hj, h⟩
    · cases e'
    · rw [List.getElem?_set_ne (Ne.symm hj)]
      exact r.own j t ds h
  · rcases get_set h1 with ⟨rfl, e', hl⟩ | ⟨hj, h1⟩
    · cases e'
    · rcases get_set h2 with ⟨rfl, e', hl⟩ | ⟨hk, h2⟩
      · cases e'
      · rw [List.getElem?_set_ne (Ne.symm hj)] at h3
        rw [List.getElem?_set_ne (Ne.symm hk)] at h4
        exact r.apart j k t u ds es a hjk h1 h2 h3 h4
  · rcases get_set h with ⟨rfl, e', hl⟩ | ⟨hj, h⟩
    · cases e'
    · exact .inl ⟨ds, h, by rw [List.getElem?_set_ne (Ne.symm hj)]⟩
/-- a name is stored: a list of its own, fresh ahead of H0 -/
theorem RS.setO (r : RS K F H σ ρ) {i : Nat} {a : Addr} {vs : List V} {ds : List PyData} (fa : F a = none) (ha : H a = some (.lst vs)) (da : DqAll K F vs ds) (no : ¬ Ow σ ρ a) : RS K F H (σ.set i (some (.ref a))) (ρ.set i (.own false ds)) := by
  refine ⟨by rw [List.length_set, List.length_set]; exact r.len, r.tab, r.nt, r.ex, fun j e h => ?_, fun j t es h => ?_, fun j k t u es ws b hjk h1 h2 h3 h4 => ?_⟩
  · rcases get_set h with ⟨rfl, e', hl⟩ | ⟨hj, h⟩
    · cases e'
    · rw [List.getElem?_set_ne (Ne.symm hj)]
      exact r.fro j e h
  · rcases get_set h with ⟨rfl, e', hl⟩ | ⟨hj, h⟩
    · cases e'
      exact ⟨a, vs, by rw [List.getElem?_set_self (by rw [← r.len]; exact hl)], fa, ha, da⟩
    · rw [List.getElem?_set_ne (Ne.symm hj)]
      exact r.own j t es h
  · have key : ∀ {j : Nat} {t : Bool} {es : List PyData}, (ρ.set i (.own false ds))[j]? = some (.own t es) → (σ.set i (some (.ref a)))[j]? = some (some (.ref b)) → (j = i ∧ b = a) ∨ (j ≠ i ∧ ρ[j]? = some (.own t es) ∧ σ[j]? = some (some (.ref b))) := fun {j t es} h1 h3 => by
      rcases get_set h1 with ⟨rfl, e', hl⟩ | ⟨hj, h1⟩
      · rw [List.getElem?_set_self (by rw [← r.len]; exact hl)] at h3
        cases h3
        exact .inl ⟨rfl, rfl⟩
      · rw [List.getElem?_set_ne (Ne.symm hj)] at h3
        exact .inr ⟨hj, h1, h3⟩
    rcases key h1 h3 with ⟨rfl, e1⟩ | ⟨hj, a1, a2⟩
    · rcases key h2 h4 with ⟨rfl, e2⟩ | ⟨hk, b1, b2⟩
      · exact hjk rfl
      · subst e1
        exact no ⟨k, u, ws, b1, b2⟩
    · rcases key h2 h4 with ⟨rfl, e2⟩ | ⟨hk, b1, b2⟩
      · subst e2
        exact no ⟨j, t, es, a1, a2⟩
      · exact r.apart j k t u es ws b hjk a1 b1 a2 b2
/-- a name's own list is changed -/
theorem RS.mut (r : RS K F H σ ρ) {i : Nat} {t : Bool} {ds es : List PyData} {a : Addr} {vs : List V} (hi : ρ[i]? = some (.own t ds)) (ha : σ[i]? = some (some (.ref a))) (dv : DqAll K F vs es) : Nx K σ ρ (ρ.set i (.own t es)) F H F (upd H a (.lst vs)) := by
  have hlt : i < ρ.length := (List.getElem?_eq_some_iff.mp hi).1
  have w : Ow σ ρ a := ⟨i, t, ds, hi, ha⟩
  have fa := r.ow_low w
  obtain ⟨a', vs', ea, _, hL, _⟩ := r.own i t ds hi
  rw [ha] at ea
  cases ea
  refine ⟨⟨by rw [List.length_set]; exact r.len, tabs_mut hL r.tab, r.nt, Ex.mut r.ex fa, fun j d h => ?_, fun j u ws h => ?_, fun j k u u' ws xs b hjk h1 h2 h3 h4 => ?_⟩, ⟨Ex.refl F, Ex.mut r.ex fa, fun b o h _ n => ?_, fun b h _ _ => h, fun t => tabs_mut hL t, id⟩, fun j u ws h => ?_, fun b h => h.upd fun ps z => by cases z⟩
  · rcases get_set h with ⟨rfl, e', hl⟩ | ⟨hj, h⟩
    · cases e'
    · exact r.fro j d h
  · rcases get_set h with ⟨rfl, e', hl⟩ | ⟨hj, h⟩
    · cases e'
      exact ⟨a, vs, ha, fa, upd_same, dv⟩
    · obtain ⟨b, xs, h1, h2, h3, h4⟩ := r.own j u ws h
      have ne : b ≠ a := fun e => by
        subst e
        exact r.apart j i u t ws ds b hj h hi h1 ha
      exact ⟨b, xs, h1, h2, by rw [upd_ne ne]; exact h3, h4⟩
  · have get : ∀ {j : Nat} {u : Bool} {ws : List PyData}, (ρ.set i (.own t es))[j]? = some (.own u ws) → ∃ ws', ρ[j]? = some (.own u ws') := fun {j u ws} h => by
      rcases get_set h with ⟨rfl, e', hl⟩ | ⟨hj, h⟩
      · cases e'
        exact ⟨ds, hi⟩
      · exact ⟨ws, h⟩
    obtain ⟨w1, g1⟩ := get h1
    obtain ⟨w2, g2⟩ := get h2
    exact r.apart j k u u' w1 w2 b hjk g1 g2 h3 h4
  · rw [upd_ne (fun e => n (by rw [e]; exact w))]; exact h
  · rcases get_set h with ⟨rfl, e', hl⟩ | ⟨hj, h⟩
    · cases e'
      exact ⟨ds, hi⟩
    · exact ⟨ws, h⟩
end
inductive Oc where
  | nx (ρ : Rho)
  | rt (d : PyData) (ρ : Rho)
  | ro (ds : List PyData) (ρ : Rho)
  | bk (ρ : Rho)
  | ct (ρ : Rho)
  | ex (c : Nat) (d : PyData) (ρ : Rho)
abbrev DS := Rho → Option Oc
def Pst (K : PKt) (ec : EC) (W : WX) (σ : L2.St) (ρ : Rho) (F H : Hp) (D : Ends) : Oc → Prop
  | .nx ρ' => ∀ σ' F' H', Sx K σ ρ σ' ρ' F H F' H' → D.nx σ' H'
  | .bk ρ' => ∀ σ' F' H', Sx K σ ρ σ' ρ' F H F' H' → D.bk σ' H'
  | .ct ρ' => ∀ σ' F' H', Sx K σ ρ σ' ρ' F H F' H' → D.ct σ' H'
  | .rt d ρ' => ∀ v σ' F' H', Sx K σ ρ σ' ρ' F H F' H' → Dq K F' v d → D.rt v H'
  | .ro ds ρ' => ∀ a vs σ' F' H', Sx K σ ρ σ' ρ' F H F' H' → ¬ Th H a → F' a = none → H' a = some (.lst vs) → DqAll K F' vs ds → D.rt (.ref a) H'
  | .ex c d ρ' => ∀ cls dd σ' F' H', Sx K σ ρ σ' ρ' F H F' H' → Xr K ec F' H' c d cls dd → W cls dd σ' H'
def Sd (K : PKt) (ec : EC) (W : WX) (ts : TS) (g : DS) : Prop := ∀ (F H : Hp) (σ : L2.St) (ρ : Rho) (oc : Oc), RS K F H σ ρ → g ρ = some oc → ∀ D : Ends, Pst K ec W σ ρ F H D oc → ts D σ H
section
variable {K : PKt} {ec : EC} {W : WX} {te ta tb : TE} {tt : TT} {t u : TS} {f g : DE} {fb : DB} {fl : DL} {gs hs : DS} {σ σ1 : L2.St} {ρ ρ1 : Rho} {F H F1 H1 : Hp} {D : Ends}
theorem none_back (h : ∀ a, Th H a → Th H1 a) {a : Addr} (e : ¬ Th H1 a) : ¬ Th H a := fun z => e (h a z)
theorem Pst.step {oc : Oc} (h : Pst K ec W σ ρ F H D oc) (s : Sx K σ ρ σ1 ρ1 F H F1 H1) : Pst K ec W σ1 ρ1 F1 H1 D oc := by
  cases oc with
  | nx ρ' => exact fun σ' F' H' m => h σ' F' H' (s.trans m)
  | bk ρ' => exact fun σ' F' H' m => h σ' F' H' (s.trans m)
  | ct ρ' => exact fun σ' F' H' m => h σ' F' H' (s.trans m)
  | rt d ρ' => exact fun v σ' F' H' m dv => h v σ' F' H' (s.trans m) dv
  | ro ds ρ' => exact fun a vs σ' F' H' m h1 h2 h3 h4 => h a vs σ' F' H' (s.trans m) (none_back s.thr h1) h2 h3 h4
  | ex c d ρ' => exact fun cls dd σ' F' H' m x => h cls dd σ' F' H' (s.trans m) x
/-- an expression's error is the statement's -/
def bndS {α : Type} (x : Option (Ou α)) (k : α → Rho → Option Oc) : Option Oc := match x with
  | none => none
  | some (.ok a ρ) => k a ρ
  | some (.ex c d ρ) => some (.ex c d ρ)
theorem Ed.goS (hh : Ed K ec W te f) (rs : RS K F H σ ρ) {k : PyData → Rho → Option Oc} {oc : Oc} (e : bndS (f ρ) k = some oc) (hp : Pst K ec W σ ρ F H D oc) {Q : VK}
    (hk : ∀ d ρ1 v F1 H1, Nx K σ ρ ρ1 F H F1 H1 → Dq K F1 v d → k d ρ1 = some oc → Pst K ec W σ ρ1 F1 H1 D oc → Q v H1) : te σ H Q := by
  unfold bndS at e
  cases ef : f ρ with
  | none => rw [ef] at e; cases e
  | some x =>
    rw [ef] at e
    cases x with
    | ok d ρ1 => exact hh F H σ ρ _ rs ef Q (fun d' ρ' e' v F' H' n dv => by cases e'; exact hk d ρ1 v F' H' n dv e (hp.step n.sx)) Fail.ok
    | ex c d ρ1 =>
      cases e
      exact hh F H σ ρ _ rs ef Q (fun d' ρ' e' => by cases e') fun c' d' ρ' e' cls dd F' H' n x => by
        cases e'
        exact hp cls dd σ F' H' n.sx x
theorem Eo.goS (hh : Eo K ec W te fl) (rs : RS K F H σ ρ) {k : List PyData → Rho → Option Oc} {oc : Oc} (e : bndS (fl ρ) k = some oc) (hp : Pst K ec W σ ρ F H D oc) {Q : VK}
    (hk : ∀ ds ρ1 a vs F1 H1, Nx K σ ρ ρ1 F H F1 H1 → ¬ Th H a → F1 a = none → H1 a = some (.lst vs) → DqAll K F1 vs ds → k ds ρ1 = some oc → Pst K ec W σ ρ F H D oc → Q (.ref a) H1) : te σ H Q := by
  unfold bndS at e
  cases ef : fl ρ with
  | none => rw [ef] at e; cases e
  | some x =>
    rw [ef] at e
    cases x with
    | ok d ρ1 => exact hh F H σ ρ _ rs ef Q (fun d' ρ' e' a vs F' H' n h1 h2 h3 h4 => by cases e'; exact hk d ρ1 a vs F' H' n h1 h2 h3 h4 e hp) Fail.ok
    | ex c d ρ1 =>
      cases e
      exact hh F H σ ρ _ rs ef Q (fun d' ρ' e' => by cases e') fun c' d' ρ' e' cls dd F' H' n x => by
        cases e'
        exact hp cls dd σ F' H' n.sx x
theorem Et.goS (hh : Et K ec W tt fb) (rs : RS K F H σ ρ) {k : Bool → Rho → Option Oc} {oc : Oc} (e : bndS (fb ρ) k = some oc) (hp : Pst K ec W σ ρ F H D oc) {Q : Bool → Hp → Prop}
    (hk : ∀ b ρ1 F1 H1, Nx K σ ρ ρ1 F H F1 H1 → k b ρ1 = some oc → Pst K ec W σ ρ1 F1 H1 D oc → Q b H1) : tt σ H Q := by
  unfold bndS at e
  cases ef : fb ρ with
  | none => rw [ef] at e; cases e
  | some x =>
    rw [ef] at e
    cases x with
    | ok d ρ1 => exact hh F H σ ρ _ rs ef Q (fun d' ρ' e' F' H' n => by cases e'; exact hk d ρ1 F' H' n e (hp.step n.sx)) Fail.ok
    | ex c d ρ1 =>
      cases e
      exact hh F H σ ρ _ rs ef Q (fun d' ρ' e' => by cases e') fun c' d' ρ' e' cls dd F' H' n x => by
        cases e'
        exact hp cls dd σ F' H' n.sx x
def seqS (f g : DS) : DS := fun ρ => match f ρ with
  | some (.nx ρ1) => g ρ1
  | x => x
theorem sd_seq (h1 : Sd K ec W t gs) (h2 : Sd K ec W u hs) : Sd K ec W (tSeq t u) (seqS gs hs) := by
  intro F H σ ρ oc rs e D hp
  unfold seqS at e
  show t { D with nx := u D } σ H
  cases ef : gs ρ with
  | none => rw [ef] at e; cases e
  | some x =>
    rw [ef] at e
    refine h1 F H σ ρ x rs ef _ ?_
    cases x with
    | nx ρ1 => exact fun σ' F' H' s => h2 F' H' σ' ρ1 oc s.rs e D (hp.step s)
    | bk ρ1 => cases e; exact hp
    | ct ρ1 => cases e; exact hp
    | rt d ρ1 => cases e; exact hp
    | ro ds ρ1 => cases e; exact hp
    | ex c d ρ1 => cases e; exact hp
def nextS : DS := fun ρ => some (.nx ρ)
theorem sd_next : Sd K ec W tNext nextS := by
  intro F H σ ρ oc rs e D hp
  cases e
  exact hp σ F H (Nx.refl rs).sx
def breakS : DS := fun ρ => some (.bk ρ)
def contS : DS := fun ρ => some (.ct ρ)
theorem sd_break : Sd K ec W tBreak breakS := by
  intro F H σ ρ oc rs e D hp
  cases e
  exact hp σ F H (Nx.refl rs).sx
theorem sd_cont : Sd K ec W tCont contS := by
  intro F H σ ρ oc rs e D hp
  cases e
  exact hp σ F H (Nx.refl rs).sx
def asgS (i : Nat) (f : DE) : DS := fun ρ => bndS (f ρ) fun d ρ1 => some (.nx (ρ1.set i (.fro d)))
theorem sd_asg {i : Nat} (h : Ed K ec W te f) : Sd K ec W (tAsg te (gName i)) (asgS i f) := by
  intro F H σ ρ oc rs e D hp
  refine h.goS rs e hp fun d ρ1 v F1 H1 n dv e1 hp1 => ?_
  cases e1
  exact hp1 _ F1 H1 (n.rs.setF dv)
def asgO (i : Nat) (f : DL) : DS := fun ρ => bndS (f ρ) fun ds ρ1 => some (.nx (ρ1.set i (.own false ds)))
theorem sd_asgO {i : Nat} (h : Eo K ec W te fl) : Sd K ec W (tAsg te (gName i)) (asgO i fl) := by
  intro F H σ ρ oc rs e D hp
  refine h.goS rs e hp fun ds ρ1 a vs F1 H1 n ha fa h1 da e1 hp1 => ?_
  cases e1
  have no : ¬ Ow σ ρ1 a := fun w => ha (rs.ow_there (n.ow w))
  refine hp1 _ F1 H1 ⟨n.rs.setO fa h1 da no, n.go, fun j t es h => ?_, n.thr, List.length_set ..⟩
  rcases get_set h with ⟨rfl, e', hl⟩ | ⟨hj, h⟩
  · cases e'
    exact .inr ⟨rfl, a, by rw [List.getElem?_set_self (by rw [← n.rs.len]; exact hl)], ha⟩
  · obtain ⟨ws, h'⟩ := n.sub j t es h
    exact .inl ⟨ws, h', by rw [List.getElem?_set_ne (Ne.symm hj)]⟩
def dropS (f : DE) : DS := fun ρ => bndS (f ρ) fun _ ρ1 => some (.nx ρ1)
theorem sd_drop (h : Ed K ec W te f) : Sd K ec W (tDrop te) (dropS f) := by
  intro F H σ ρ oc rs e D hp
  refine h.goS rs e hp fun d ρ1 v F1 H1 n dv e1 hp1 => ?_
  cases e1
  exact hp1 _ F1 H1 (Nx.refl n.rs).sx
def retS (f : DE) : DS := fun ρ => bndS (f ρ) fun d ρ1 => some (.rt d ρ1)
theorem sd_ret (h : Ed K ec W te f) : Sd K ec W (tRet te) (retS f) := by
  intro F H σ ρ oc rs e D hp
  refine h.goS rs e hp fun d ρ1 v F1 H1 n dv e1 hp1 => ?_
  cases e1
  exact hp1 v _ F1 H1 (Nx.refl n.rs).sx dv
/-- a new list is returned -/
def retO (f : DL) : DS := fun ρ => bndS (f ρ) fun ds ρ1 => some (.ro ds ρ1)
theorem sd_retO (h : Eo K ec W te fl) : Sd K ec W (tRet te) (retO fl) := by
  intro F H σ ρ oc rs e D hp
  refine h.goS rs e hp fun ds ρ1 a vs F1 H1 n ha fa h1 da e1 _ => ?_
  cases e1
  exact hp a vs σ F1 H1 n.sx ha fa h1 da
def retN : DS := fun ρ => some (.rt .none ρ)
theorem sd_retN : Sd K ec W tRetN retN := by
  intro F H σ ρ oc rs e D hp
  cases e
  exact hp .non σ F H (Nx.refl rs).sx .non
def ifS (c : DB) (f g : DS) : DS := fun ρ => bndS (c ρ) fun b ρ1 => if b then f ρ1 else g ρ1
theorem sd_if (hc : Et K ec W tt fb) (h1 : Sd K ec W t gs) (h2 : Sd K ec W u hs) : Sd K ec W (tIfS tt t u) (ifS fb gs hs) := by
  intro F H σ ρ oc rs e D hp
  refine hc.goS rs e hp fun b ρ1 F1 H1 n e1 hp1 => ?_
  cases b with
  | true => exact h1 F1 H1 σ ρ1 oc n.rs e1 D hp1
  | false => exact h2 F1 H1 σ ρ1 oc n.rs e1 D hp1
/-- never reached -/
def neverS : DS := fun _ => none
theorem sd_never : Sd K ec W tNever neverS := by
  intro F H σ ρ oc rs e D hp
  cases e
/-- x.append(e), x a list of its own -/
def appS (i : Nat) (f : DE) : DS := fun ρ => match ρ[i]? with
  | some (.own _ _) => bndS (f ρ) fun d ρ1 => match ρ1[i]? with
    | some (.own t ds) => if ds.length < 100000 then some (.nx (ρ1.set i (.own t (ds ++ [d])))) else none
    | _ => none
  | _ => none
theorem sd_app {i : Nat} (h : Ed K ec W te f) : Sd K ec W (tDrop (tBM K "list" rAppend (tVar i) (tCons te tNil))) (appS i f) := by
  intro F H σ ρ oc rs e D hp
  unfold appS at e
  split at e
  · rename_i t0 ds0 h0
    obtain ⟨a, vs, h1, h2, h3, h4⟩ := rs.own i t0 ds0 h0
    refine ⟨.ref a, h1, .inl ⟨rfl, _, SqL.of h3⟩, ?_⟩
    refine h.goS rs e hp fun d ρ1 v F1 H1 n dv e1 hp1 => ?_
    split at e1
    · rename_i t ds hh
      split at e1
      · rename_i hz
        cases e1
        obtain ⟨b, ws, g1, g2, g3, g4⟩ := n.rs.own i t ds hh
        rw [h1] at g1
        cases g1
        exact ⟨a, ws, v, rfl, rfl, g3, sz_lt (by rw [g4.length]; exact hz), hp1 _ F1 _ (n.rs.mut hh h1 (g4.append (.one dv))).sx⟩
      · cases e1
    · cases e1
  · cases e
end
end Pd

namespace Pd
open PySem L2 Evl
/-! ### targets -/
abbrev DG := PyData → Rho → Option Rho
def Gd (K : PKt) (is : List Nat) (g : TG) (tg : DG) : Prop := ∀ (F H : Hp) (σ : L2.St) (ρ : Rho) (v : V) (d : PyData) (ρ' : Rho), RS K F H σ ρ → Dq K F v d → tg d ρ = some ρ' → ∀ Q : L2.St → Hp → Prop, (∀ σ', Sx K σ ρ σ' ρ' F H F H → (∀ j, j ∉ is → σ'[j]? = σ[j]?) → Q σ' H) → g v σ H Q
def Gds (K : PKt) (is : List Nat) (g : TGs) (tg : List PyData → Rho → Option Rho) : Prop := ∀ (F H : Hp) (σ : L2.St) (ρ : Rho) (vs : List V) (ds : List PyData) (ρ' : Rho), RS K F H σ ρ → DqAll K F vs ds → tg ds ρ = some ρ' → ∀ Q : L2.St → Hp → Prop, (∀ σ', Sx K σ ρ σ' ρ' F H F H → (∀ j, j ∉ is → σ'[j]? = σ[j]?) → Q σ' H) → g vs σ H Q
section
variable {K : PKt} {is js : List Nat} {g g1 : TG} {gs : TGs} {tg : DG} {tgs : List PyData → Rho → Option Rho}
def nameG (i : Nat) : DG := fun d ρ => some (ρ.set i (.fro d))
theorem gd_name {i : Nat} : Gd K [i] (gName i) (nameG i) := by
  intro F H σ ρ v d ρ' rs dv e Q hq
  cases e
  exact hq _ (rs.setF dv) fun j hj => List.getElem?_set_ne fun z => hj (by rw [z]; exact List.mem_singleton.mpr rfl)
def nilG : List PyData → Rho → Option Rho := fun ds ρ => match ds with | [] => some ρ | _ => none
def consG (a : DG) (b : List PyData → Rho → Option Rho) : List PyData → Rho → Option Rho := fun ds ρ => match ds with | [] => none | d :: r => (a d ρ).bind (b r)
theorem gds_nil : Gds K [] gNil nilG := by
  intro F H σ ρ vs ds ρ' rs dv e Q hq
  cases dv with
  | nil => cases e; exact ⟨rfl, hq _ (Nx.refl rs).sx fun _ _ => rfl⟩
  | cons _ _ => cases e
theorem gds_cons (h : Gd K is g tg) (hs : Gds K js gs tgs) : Gds K (is ++ js) (gCons g gs) (consG tg tgs) := by
  intro F H σ ρ vs ds ρ' rs dv e Q hq
  cases dv with
  | nil => cases e
  | cons d0 dr =>
    rename_i v vr d r
    refine ⟨v, vr, rfl, ?_⟩
    have e' : (tg d ρ).bind (tgs r) = some ρ' := e
    cases e1 : tg d ρ with
    | none => rw [e1] at e'; cases e'
    | some ρ1 =>
      rw [e1] at e'
      exact h F H σ ρ v d ρ1 rs d0 e1 _ fun σ1 s1 o1 => hs F H σ1 ρ1 vr r ρ' s1.rs dr e' Q fun σ2 s2 o2 => hq σ2 (s1.trans s2) fun j hj => (o2 j fun z => hj (List.mem_append_right _ z)).trans (o1 j fun z => hj (List.mem_append_left _ z))
def seqG (tgs : List PyData → Rho → Option Rho) : DG := fun d ρ => match d with | .tuple ds => tgs ds ρ | .list ds => tgs ds ρ | _ => none
def tupG (tgs : List PyData → Rho → Option Rho) : DG := fun d ρ => match d with | .tuple ds => tgs ds ρ | _ => none
inductive Ln : Nat → (List PyData → Rho → Option Rho) → Prop
  | nil : Ln 0 nilG
  | cons {n : Nat} {a : DG} {b : List PyData → Rho → Option Rho} : Ln n b → Ln (n + 1) (consG a b)
theorem Ln.len {n : Nat} (h : Ln n tgs) : ∀ {ds : List PyData} {ρ ρ' : Rho}, tgs ds ρ = some ρ' → ds.length = n := by
  induction h with
  | nil =>
    intro ds ρ ρ' e
    cases ds with
    | nil => rfl
    | cons _ _ => cases e
  | cons _ ih =>
    rename_i n a b _
    intro ds ρ ρ' e
    cases ds with
    | nil => cases e
    | cons d r =>
      have e' : (a d ρ).bind (b r) = some ρ' := e
      cases e1 : a d ρ with
      | none => rw [e1] at e'; cases e'
      | some ρ1 =>
        rw [e1] at e'
        exact congrArg (· + 1) (ih e')
theorem gd_tup {n : Nat} (h : Gds K is gs tgs) (hn : Ln n tgs) : Gd K is (gTup K n gs) (tupG tgs) := by
  intro F H σ ρ v d ρ' rs dv e Q hq
  cases dv with
  | tup ha hs => exact ⟨_, _, rfl, TupZ.sq ha (rs.ex), by rw [hs.length]; exact hn.len e, h F H σ ρ _ _ ρ' rs hs e Q hq⟩
  | _ => cases e
theorem gd_seq {n : Nat} (h : Gds K is gs tgs) (hn : Ln n tgs) : Gd K is (fun v σ H Q => gTup K n gs v σ H Q ∨ gUnl K n gs v σ H Q) (seqG tgs) := by
  intro F H σ ρ v d ρ' rs dv e Q hq
  cases dv with
  | tup ha hs => exact .inl ⟨_, _, rfl, TupZ.sq ha (rs.ex), by rw [hs.length]; exact hn.len e, h F H σ ρ _ _ ρ' rs hs e Q hq⟩
  | lst ha hs => exact .inr ⟨_, _, rfl, SqL.of (rs.ex _ _ ha), by rw [hs.length]; exact hn.len e, h F H σ ρ _ _ ρ' rs hs e Q hq⟩
  | _ => cases e
/-- a list or a tuple -/
def gOr (a b : TG) : TG := fun v σ H Q => a v σ H Q ∨ b v σ H Q
theorem pg_or {X : Cx} {e : Expr} {a b : TG} (h1 : PG X e a) (h2 : PG X e b) : PG X e (gOr a b) := by
  constructor
  intro pins s σ H v u Q I r h
  rcases h with h | h
  · exact h1.run pins s σ H v u Q I r h
  · exact h2.run pins s σ H v u Q I r h
end
end Pd

namespace Pd
open PySem L2 Evl
/-! ### iterators -/
/-- what an iterator gives, as data -/
structure Itd (K : PKt) (F : Hp) (J : It) (ds : List PyData) : Prop where
  stop : ∀ i H1, Ex F H1 → ds.length ≤ i → J.stop i H1
  go : ∀ i d H1, Ex F H1 → ds[i]? = some d → J.go i H1
  yld : ∀ i d F1 H1 x H2, Ex F F1 → Ex F1 H1 → ds[i]? = some d → J.yld i H1 x H2 → (H2 = H1 ∧ Dq K F1 x d) ∨ ∃ p ob, (∀ ps, ob ≠ .tbl ps) ∧ x = .ref p ∧ H1 p = none ∧ H2 = upd H1 p ob ∧ Dq K (upd F1 p ob) (.ref p) d
def Id (K : PKt) (ec : EC) (W : WX) (wi : TI) (f : DL) : Prop := ∀ (F H : Hp) (σ : L2.St) (ρ : Rho) (o : Ou (List PyData)), RS K F H σ ρ → f ρ = some o → ∀ R : It → Hp → Prop,
  (∀ ds ρ', o = .ok ds ρ' → ∀ J F' H', Nx K σ ρ ρ' F H F' H' → Itd K F' J ds → R J H') → Fail K ec W σ ρ F H o → wi σ H R
section
variable {K : PKt} {ec : EC} {W : WX} {te ta tb : TE} {tl : TA} {f : DE} {fl : DL} {F H : Hp} {a : Addr} {xs : List V} {ds : List PyData}
theorem itd_list (h : F a = some (.lst xs)) (hs : DqAll K F xs ds) : Itd K F (Itl K a) ds := by
  refine ⟨fun i H1 e hl => ⟨xs, SqL.of (e _ _ h), by rw [hs.length]; exact hl⟩, fun i d H1 e hd => ?_, fun i d F1 H1 x H2 e1 e2 hd hy => ?_⟩
  · obtain ⟨v, h1, _⟩ := hs.get hd
    exact ⟨xs, v, SqL.of (e _ _ h), h1⟩
  · obtain ⟨v, h1, h2⟩ := hs.get hd
    have := hy.2 xs (SqL.of (e2 _ _ (e1 _ _ h)))
    rw [h1] at this
    cases this
    exact .inl ⟨hy.1, h2.mono e1⟩
theorem itd_tup (h : TupZ K.K F a xs) (hs : DqAll K F xs ds) : Itd K F (Itt K a) ds := by
  refine ⟨fun i H1 e hl => ⟨xs, TupZ.sq h e, by rw [hs.length]; exact hl⟩, fun i d H1 e hd => ?_, fun i d F1 H1 x H2 e1 e2 hd hy => ?_⟩
  · obtain ⟨v, h1, _⟩ := hs.get hd
    exact ⟨xs, v, TupZ.sq h e, h1⟩
  · obtain ⟨v, h1, h2⟩ := hs.get hd
    have := hy.2 xs (TupZ.sq (TupZ.mono e1 h) e2)
    rw [h1] at this
    cases this
    exact .inl ⟨hy.1, h2.mono e1⟩
/-- the numbers lo, lo + 1, .. -/
def rangeD (lo : Int) (n : Nat) : List PyData := (List.range n).map fun i => .int (lo + (i : Nat))
theorem rangeD_get {lo : Int} {n i : Nat} {d : PyData} (h : (rangeD lo n)[i]? = some d) : i < n ∧ d = .int (lo + (i : Nat)) := by
  unfold rangeD at h
  rw [List.getElem?_map] at h
  by_cases hi : i < n
  · rw [List.getElem?_range hi] at h
    cases h
    exact ⟨hi, rfl⟩
  · rw [List.getElem?_eq_none (by rw [List.length_range]; omega)] at h
    cases h
theorem itd_range {lo : Int} {n : Nat} : Itd K F (Itr lo n) (rangeD lo n) := by
  refine ⟨fun i H1 e hl => ?_, fun i d H1 e hd => (rangeD_get hd).1, fun i d F1 H1 x H2 e1 e2 hd hy => ?_⟩
  · have : n ≤ i := by
      have h : (rangeD lo n).length ≤ i := hl
      unfold rangeD at h
      rwa [List.length_map, List.length_range] at h
    exact this
  · have k := (rangeD_get hd).2
    subst k
    refine .inl ⟨hy.1, ?_⟩
    rw [hy.2]
    exact .int _
def enumD (k : Nat) : List PyData → List PyData
  | [] => []
  | d :: r => .tuple [.int (k : Nat), d] :: enumD (k + 1) r
theorem enumD_length : ∀ (ds : List PyData) (k : Nat), (enumD k ds).length = ds.length
  | [], _ => rfl
  | _ :: r, k => congrArg (· + 1) (enumD_length r (k + 1))
theorem enumD_get : ∀ {ds : List PyData} {k i : Nat} {d : PyData}, (enumD k ds)[i]? = some d → ∃ e, ds[i]? = some e ∧ d = .tuple [.int ((k + i : Nat) : Int), e]
  | [], _, _, _, h => by cases h
  | e :: r, k, 0, d, h => by cases h; exact ⟨e, rfl, rfl⟩
  | e :: r, k, i + 1, d, h => by
    obtain ⟨e', h1, h2⟩ := enumD_get (ds := r) (k := k + 1) (i := i) (d := d) h
    exact ⟨e', h1, by rw [h2, Nat.add_assoc, Nat.add_comm 1 i]⟩
theorem itd_enum (h : F a = some (.lst xs)) (hs : DqAll K F xs ds) : Itd K F (Ite K a) (enumD 0 ds) := by
  refine ⟨fun i H1 e hl => ⟨xs, SqL.of (e _ _ h), by rw [hs.length, ← enumD_length ds 0]; exact hl⟩, fun i d H1 e hd => ?_, fun i d F1 H1 x H2 e1 e2 hd hy => ?_⟩
  · obtain ⟨e0, k1, _⟩ := enumD_get hd
    obtain ⟨v, h1, _⟩ := hs.get k1
    exact ⟨xs, v, SqL.of (e _ _ h), h1⟩
  · obtain ⟨e0, k1, rfl⟩ := enumD_get hd
    obtain ⟨v, h1, h2⟩ := hs.get k1
    obtain ⟨T, y, rfl, hT, rfl, hy2⟩ := hy
    have := hy2 xs (SqL.of (e2 _ _ (e1 _ _ h)))
    rw [h1] at this
    cases this
    refine .inr ⟨T, _, (fun ps z => by cases z), rfl, hT, rfl, .tup (.inl upd_same) (.cons ?_ (.cons ((h2.mono e1).mono (Ex.new (fresh_back e2 hT))) .nil))⟩
    rw [Nat.zero_add]
    exact .int _
/-! ### what is gone through -/
def listI (f : DE) : DL := fun ρ => bnd (f ρ) fun d ρ1 => match d with | .list ds => some (.ok ds ρ1) | _ => none
def tupI (f : DE) : DL := fun ρ => bnd (f ρ) fun d ρ1 => match d with | .tuple ds => some (.ok ds ρ1) | _ => none
def seqI (f : DE) : DL := fun ρ => bnd (f ρ) fun d ρ1 => match d with | .list ds => some (.ok ds ρ1) | .tuple ds => some (.ok ds ρ1) | _ => none
theorem id_list (h : Ed K ec W te f) : Id K ec W (iList K te) (listI f) := by
  intro F H σ ρ o rs e R q hf
  refine h.go rs e hf fun d ρ1 v F1 H1 n1 dv e1 hf1 => ?_
  cases dv with
  | lst ha hs => cases e1; exact ⟨_, rfl, ⟨_, SqL.of (n1.rs.ex _ _ ha)⟩, q _ _ rfl _ F1 H1 n1 (itd_list ha hs)⟩
  | _ => cases e1
theorem id_tup (h : Ed K ec W te f) : Id K ec W (iTup K te) (tupI f) := by
  intro F H σ ρ o rs e R q hf
  refine h.go rs e hf fun d ρ1 v F1 H1 n1 dv e1 hf1 => ?_
  cases dv with
  | tup ha hs => cases e1; exact ⟨_, rfl, ⟨_, TupZ.sq ha (n1.rs.ex)⟩, q _ _ rfl _ F1 H1 n1 (itd_tup ha hs)⟩
  | _ => cases e1
/-- a list or a tuple: which of both is known ahead -/
def iOr (a b : TI) : TI := fun σ H R => a σ H R ∨ b σ H R
theorem pi_or {X : Cx} {tg e : Expr} {a b : TI} (h1 : PI X tg e a) (h2 : PI X tg e b) : PI X tg e (iOr a b) := by
  constructor
  intro pins s σ H R I h
  rcases h with h | h
  · exact h1.run pins s σ H R I h
  · exact h2.run pins s σ H R I h
theorem id_or {wa wb : TI} {fa fb : DL} (ha : Id K ec W wa fa) (hb : Id K ec W wb fb) {fl : DL} (hs : ∀ ρ o, fl ρ = some o → fa ρ = some o ∨ fb ρ = some o) : Id K ec W (iOr wa wb) fl := by
  intro F H σ ρ o rs e R q hf
  rcases hs ρ o e with h | h
  · exact .inl (ha F H σ ρ o rs h R q hf)
  · exact .inr (hb F H σ ρ o rs h R q hf)
theorem id_seq (h : Ed K ec W te f) : Id K ec W (iOr (iList K te) (iTup K te)) (seqI f) := by
  refine id_or (id_list h) (id_tup h) fun ρ o e => ?_
  unfold seqI at e
  unfold listI tupI
  cases ef : f ρ with
  | none => rw [ef] at e; cases e
  | some x =>
    rw [ef] at e
    cases x with
    | ex c d ρ1 => exact .inl e
    | ok d ρ1 =>
      cases d with
      | list ds => exact .inl e
      | tuple ds => exact .inr e
      | _ => cases e
def rng1I (fl : DL) : DL := fun ρ => bnd (fl ρ) fun as ρ1 => match as with | [.int j] => if j < 1000000 then some (.ok (rangeD 0 j.toNat) ρ1) else none | _ => none
def rng2I (fl : DL) : DL := fun ρ => bnd (fl ρ) fun as ρ1 => match as with | [.int i, .int j] => if -1000000 < i ∧ i < 1000000 ∧ -1000000 < j ∧ j < 1000000 then some (.ok (rangeD i (j - i).toNat) ρ1) else none | _ => none
/-- range(n), n not below -1000000 -/
theorem id_rng1 (h : Ea K ec W tl fl) : Id K ec W (iRng1 tl) (fun ρ => bnd (fl ρ) fun as ρ1 => match as with | [.int j] => if -1000000 < j ∧ j < 1000000 then some (.ok (rangeD 0 j.toNat) ρ1) else none | _ => none) := by
  intro F H σ ρ o rs e R q hf
  refine h.go rs e hf fun as ρ1 vs F1 H1 n1 dv e1 hf1 => ?_
  split at e1
  · rename_i j
    split at e1
    · rename_i hj
      cases e1
      cases dv with
      | cons d0 dr =>
        cases d0 with
        | int _ =>
          cases dr with
          | nil => exact ⟨j, rfl, by omega, by omega, q _ _ rfl _ F1 H1 n1 itd_range⟩
    · cases e1
  · cases e1
theorem id_rng2 (h : Ea K ec W tl fl) : Id K ec W (iRng2 tl) (rng2I fl) := by
  intro F H σ ρ o rs e R q hf
  refine h.go rs e hf fun as ρ1 vs F1 H1 n1 dv e1 hf1 => ?_
  split at e1
  · rename_i i j
    split at e1
    · rename_i hj
      cases e1
      cases dv with
      | cons d0 dr =>
        cases d0 with
        | int _ =>
          cases dr with
          | cons d1 d2 =>
            cases d1 with
            | int _ =>
              cases d2 with
              | nil => exact ⟨i, j, rfl, ⟨by omega, by omega, by omega, by omega⟩, q _ _ rfl _ F1 H1 n1 itd_range⟩
    · cases e1
  · cases e1
def enumI (fl : DL) : DL := fun ρ => bnd (fl ρ) fun as ρ1 => match as with | [.list ds] => some (.ok (enumD 0 ds) ρ1) | _ => none
theorem id_enum (h : Ea K ec W tl fl) : Id K ec W (iEnum K tl) (enumI fl) := by
  intro F H σ ρ o rs e R q hf
  refine h.go rs e hf fun as ρ1 vs F1 H1 n1 dv e1 hf1 => ?_
  split at e1
  · cases e1
    cases dv with
    | cons d0 dr =>
      cases d0 with
      | lst ha hs =>
        cases dr with
        | nil => exact ⟨_, _, rfl, SqL.of (n1.rs.ex _ _ ha), q _ _ rfl _ F1 H1 n1 (itd_enum ha hs)⟩
  · cases e1
/-! ### for -/
def loopS (tg : DG) (body : DS) : List PyData → DS
  | [], ρ => some (.nx ρ)
  | d :: ds, ρ => match tg d ρ with
    | none => none
    | some ρ1 => match body ρ1 with
      | some (.nx ρ2) => loopS tg body ds ρ2
      | some (.ct ρ2) => loopS tg body ds ρ2
      | some (.bk ρ2) => some (.nx ρ2)
      | x => x
def forS (fl : DL) (tg : DG) (body : DS) : DS := fun ρ => bndS (fl ρ) fun ds ρ1 => loopS tg body ds ρ1
theorem Id.goS {wi : TI} {σ : L2.St} {ρ : Rho} {D : Ends} (hh : Id K ec W wi fl) (rs : RS K F H σ ρ) {k : List PyData → Rho → Option Oc} {oc : Oc} (e : bndS (fl ρ) k = some oc) (hp : Pst K ec W σ ρ F H D oc) {R : It → Hp → Prop}
    (hk : ∀ ds ρ1 J F1 H1, Nx K σ ρ ρ1 F H F1 H1 → Itd K F1 J ds → k ds ρ1 = some oc → Pst K ec W σ ρ1 F1 H1 D oc → R J H1) : wi σ H R := by
  unfold bndS at e
  cases ef : fl ρ with
  | none => rw [ef] at e; cases e
  | some x =>
    rw [ef] at e
    cases x with
    | ok d ρ1 => exact hh F H σ ρ _ rs ef R (fun d' ρ' e' J F' H' n dv => by cases e'; exact hk d ρ1 J F' H' n dv e (hp.step n.sx)) Fail.ok
    | ex c d ρ1 =>
      cases e
      exact hh F H σ ρ _ rs ef R (fun d' ρ' e' => by cases e') fun c' d' ρ' e' cls dd F' H' n x => by
        cases e'
        exact hp cls dd σ F' H' n.sx x
/-- a new frozen object behind a statement's part -/
theorem Sx.new {σ : L2.St} {ρ : Rho} (r : RS K F H σ ρ) {p : Addr} {o : HO} (hp : H p = none) (nt : ∀ ps, o ≠ .tbl ps) : Sx K σ ρ σ ρ F H (upd F p o) (upd H p o) := (r.new hp nt).sx
theorem sd_for {wi : TI} {is : List Nat} {g : TG} {tg : DG} {ts : TS} {gs : DS} (hi : Id K ec W wi fl) (hg : Gd K is g tg) (hb : Sd K ec W ts gs) : Sd K ec W (tFor wi g ts) (forS fl tg gs) := by
  intro F H σ ρ oc rs e D hp
  refine hi.goS rs e hp fun ds ρ1 J F1 H1 n1 it e1 hp1 => ?_
  refine ⟨fun i m σ' H' => ∃ ρ' F', Sx K σ ρ1 σ' ρ' F1 H1 F' H' ∧ loopS tg gs (ds.drop i) ρ' = some oc ∧ m = ds.length - i, ⟨ds.length, ρ1, F1, (Nx.refl n1.rs).sx, e1, rfl⟩, ?_⟩
  rintro i m σ2 H2 ⟨ρ2, F2, s2, e2, rfl⟩
  have ex2 : Ex F1 H2 := s2.go.fr.trans s2.rs.ex
  by_cases hlt : i < ds.length
  · refine .inr ⟨it.go i ds[i] H2 ex2 (List.getElem?_eq_getElem hlt), fun σ' H' => ∃ ρ' F', Sx K σ ρ1 σ' ρ' F1 H1 F' H' ∧ loopS tg gs (ds.drop (i + 1)) ρ' = some oc, ?_, ?_⟩
    · rintro σ' H' ⟨ρ', F', s', e'⟩
      exact ⟨ds.length - (i + 1), by omega, ρ', F', s', e', rfl⟩
    · intro x H3 hy
      rw [List.drop_eq_getElem_cons hlt] at e2
      unfold loopS at e2
      have main : ∀ F3, Sx K σ ρ1 σ2 ρ2 F1 H1 F3 H3 → Dq K F3 x ds[i] → g x σ2 H3 fun σ4 H4 => ts { nx := fun σ' H' => ∃ ρ' F', Sx K σ ρ1 σ' ρ' F1 H1 F' H' ∧ loopS tg gs (ds.drop (i + 1)) ρ' = some oc, rt := D.rt, bk := D.nx, ct := fun σ' H' => ∃ ρ' F', Sx K σ ρ1 σ' ρ' F1 H1 F' H' ∧ loopS tg gs (ds.drop (i + 1)) ρ' = some oc } σ4 H4 := by
        intro F3 s3 dx
        cases et : tg ds[i] ρ2 with
        | none => rw [et] at e2; cases e2
        | some ρ3 =>
          rw [et] at e2
          refine hg F3 H3 σ2 ρ2 x ds[i] ρ3 s3.rs dx et _ fun σ4 s4 _ => ?_
          have s5 := s3.trans s4
          cases eb : gs ρ3 with
          | none => simp only [eb] at e2; cases e2
          | some ob =>
            simp only [eb] at e2
            refine hb F3 H3 σ4 ρ3 ob s4.rs eb _ ?_
            cases ob with
            | nx ρ' => exact fun σ' F' H' s' => ⟨ρ', F', s5.trans s', e2⟩
            | ct ρ' => exact fun σ' F' H' s' => ⟨ρ', F', s5.trans s', e2⟩
            | bk ρ' =>
              cases e2
              exact fun σ' F' H' s' => hp1 σ' F' H' (s5.trans s')
            | rt d ρ' =>
              cases e2
              exact fun v σ' F' H' s' dv => hp1 v σ' F' H' (s5.trans s') dv
            | ro ds ρ' =>
              cases e2
              exact fun a vs σ' F' H' s' h1 h2 h3 h4 => hp1 a vs σ' F' H' (s5.trans s') (none_back s5.thr h1) h2 h3 h4
            | ex c d ρ' =>
              cases e2
              exact fun cls dd σ' F' H' s' x => hp1 cls dd σ' F' H' (s5.trans s') x
      rcases it.yld i ds[i] F2 H2 x H3 s2.go.fr s2.rs.ex (List.getElem?_eq_getElem hlt) hy with ⟨rfl, dx⟩ | ⟨p, ob, nt, rfl, hpn, rfl, dx⟩
      · exact main F2 s2 dx
      · exact main (upd F2 p ob) (s2.trans (Sx.new s2.rs hpn nt)) dx
  · refine .inl ⟨it.stop i H2 ex2 (by omega), ?_⟩
    rw [List.drop_eq_nil_of_le (by omega)] at e2
    cases e2
    exact hp1 σ2 F2 H2 s2
end
end Pd

namespace Pd
open PySem L2 Evl
/-! ### a comprehension's own names -/
theorem wipe_length (σ : L2.St) : ∀ vs : List Nat, (wipe σ vs).length = σ.length
  | [] => rfl
  | i :: r => by
    show ((wipe σ r).set i none).length = _
    rw [List.length_set, wipe_length σ r]
theorem wipe_in (σ : L2.St) {j : Nat} : ∀ {vs : List Nat}, j ∈ vs → j < σ.length → (wipe σ vs)[j]? = some none
  | i :: r, h, hl => by
    show ((wipe σ r).set i none)[j]? = _
    by_cases e : j = i
    · subst e
      rw [List.getElem?_set_self (by rw [wipe_length]; exact hl)]
    · rw [List.getElem?_set_ne (Ne.symm e)]
      rcases List.mem_cons.mp h with h | h
      · exact absurd h e
      · exact wipe_in σ h hl
theorem wipe_out (σ : L2.St) {j : Nat} : ∀ {vs : List Nat}, j ∉ vs → (wipe σ vs)[j]? = σ[j]?
  | [], _ => rfl
  | i :: r, h => by
    show ((wipe σ r).set i none)[j]? = _
    rw [List.getElem?_set_ne fun e => h (by rw [e]; exact List.mem_cons_self)]
    exact wipe_out σ fun m => h (List.mem_cons_of_mem _ m)
theorem wipe_ext {σ τ : L2.St} {vs : List Nat} (hl : τ.length = σ.length) (h : ∀ j, j ∉ vs → τ[j]? = σ[j]?) : wipe τ vs = wipe σ vs := by
  apply List.ext_getElem?
  intro j
  by_cases hj : j ∈ vs
  · by_cases hn : j < σ.length
    · rw [wipe_in σ hj hn, wipe_in τ hj (by rw [hl]; exact hn)]
    · rw [List.getElem?_eq_none (by rw [wipe_length]; omega), List.getElem?_eq_none (by rw [wipe_length]; omega)]
  · rw [wipe_out σ hj, wipe_out τ hj, h j hj]
def wipeR (ρ : Rho) : List Nat → Rho
  | [] => ρ
  | i :: r => (wipeR ρ r).set i .no
theorem wipeR_length (ρ : Rho) : ∀ vs : List Nat, (wipeR ρ vs).length = ρ.length
  | [] => rfl
  | i :: r => by
    show ((wipeR ρ r).set i _).length = _
    rw [List.length_set, wipeR_length ρ r]
theorem wipeR_get (ρ : Rho) {j : Nat} {s : Sl} (hs : s ≠ .no) : ∀ {vs : List Nat}, (wipeR ρ vs)[j]? = some s → j ∉ vs ∧ ρ[j]? = some s
  | [], h => ⟨List.not_mem_nil, h⟩
  | i :: r, h => by
    rcases get_set (l := wipeR ρ r) h with ⟨_, e, _⟩ | ⟨hj, h⟩
    · exact absurd e hs
    · obtain ⟨a, b⟩ := wipeR_get ρ hs h
      exact ⟨fun m => (List.mem_cons.mp m).elim hj a, b⟩
section
variable {K : PKt} {ec : EC} {W : WX} {F H F1 H1 : Hp} {σ τ : L2.St} {ρ ρ1 : Rho} {vs : List Nat}
/-- names outside vs are alike in σ and τ -/
theorem RS.wipe (r : RS K F H σ ρ) (hl : τ.length = σ.length) (h : ∀ j, j ∉ vs → τ[j]? = σ[j]?) : RS K F H τ (wipeR ρ vs) := by
  refine ⟨by rw [wipeR_length, hl]; exact r.len, r.tab, r.nt, r.ex, fun i d e => ?_, fun i t ds e => ?_, fun i j t u ds es a hij e1 e2 e3 e4 => ?_⟩
  · obtain ⟨a, b⟩ := wipeR_get ρ (by intro z; cases z) e
    rw [h i a]
    exact r.fro i d b
  · obtain ⟨a, b⟩ := wipeR_get ρ (by intro z; cases z) e
    rw [h i a]
    exact r.own i t ds b
  · obtain ⟨a1, b1⟩ := wipeR_get ρ (by intro z; cases z) e1
    obtain ⟨a2, b2⟩ := wipeR_get ρ (by intro z; cases z) e2
    rw [h i a1] at e3
    rw [h j a2] at e4
    exact r.apart i j t u ds es a hij b1 b2 e3 e4
/-- behind a part of a comprehension: its state, its owned lists within the outer ones -/
structure Cx2 (K : PKt) (σ : L2.St) (ρ : Rho) (τ : L2.St) (ρ' : Rho) (F H F' H' : Hp) : Prop where
  rs : RS K F' H' τ ρ'
  go : Go K.T (Ow σ ρ) F H F' H'
  sub : ∀ (i : Nat) (t : Bool) (ds : List PyData), ρ'[i]? = some (.own t ds) → ∃ es, ρ[i]? = some (.own t es) ∧ τ[i]? = σ[i]?
  thr : ∀ a, Th H a → Th H' a
theorem Cx2.ow (c : Cx2 K σ ρ τ ρ1 F H F1 H1) {a : Addr} (h : Ow τ ρ1 a) : Ow σ ρ a := by
  obtain ⟨i, t, ds, h1, h2⟩ := h
  obtain ⟨es, h3, h4⟩ := c.sub i t ds h1
  exact ⟨i, t, es, h3, by rw [← h4]; exact h2⟩
theorem Cx2.nx (c : Cx2 K σ ρ τ ρ1 F H F1 H1) {ρ2 : Rho} {F2 H2 : Hp} (n : Nx K τ ρ1 ρ2 F1 H1 F2 H2) : Cx2 K σ ρ τ ρ2 F H F2 H2 :=
  ⟨n.rs, c.go.trans n.go fun x h => .inl (c.ow h), fun i t ds h => (n.sub i t ds h).elim fun es e => c.sub i t es e, fun x h => n.thr x (c.thr x h)⟩
/-- a target's names are new: what they hold is no list of the outer def's own -/
theorem Cx2.sx (c : Cx2 K σ ρ τ ρ1 F H F1 H1) {υ : L2.St} {ρ2 : Rho} (n : Sx K τ ρ1 υ ρ2 F1 H1 F1 H1) (ht : ∀ a, F1 a = none → H1 a ≠ none → True) (hs : ∀ (i : Nat) (t : Bool) (ds : List PyData), ρ2[i]? = some (.own t ds) → ∃ es, ρ1[i]? = some (.own t es) ∧ υ[i]? = τ[i]?) : Cx2 K σ ρ υ ρ2 F H F1 H1 :=
  ⟨n.rs, c.go, fun i t ds h => (hs i t ds h).elim fun es e => (c.sub i t es e.1).elim fun es' e' => ⟨es', e'.1, e.2.trans e'.2⟩, c.thr⟩
theorem Cx2.wipe (c : Cx2 K σ ρ τ ρ1 F H F1 H1) {υ : L2.St} (hl : υ.length = τ.length) (h : ∀ j, j ∉ vs → υ[j]? = τ[j]?) : Cx2 K σ ρ υ (wipeR ρ1 vs) F H F1 H1 :=
  ⟨c.rs.wipe hl h, c.go, fun i t ds e => by
    obtain ⟨a, b⟩ := wipeR_get ρ1 (by intro z; cases z) e
    obtain ⟨es, e1, e2⟩ := c.sub i t ds b
    exact ⟨es, e1, by rw [h i a, e2]⟩, c.thr⟩
theorem Cx2.toNx (c : Cx2 K σ ρ σ ρ1 F H F1 H1) : Nx K σ ρ ρ1 F H F1 H1 := ⟨c.rs, c.go, fun i t ds h => (c.sub i t ds h).elim fun es e => ⟨es, e.1⟩, c.thr⟩
theorem Nx.toC (n : Nx K σ ρ ρ1 F H F1 H1) : Cx2 K σ ρ σ ρ1 F H F1 H1 := ⟨n.rs, n.go, fun i t ds h => (n.sub i t ds h).elim fun es e => ⟨es, e, rfl⟩, n.thr⟩
/-- a new frozen object -/
theorem Cx2.new (c : Cx2 K σ ρ τ ρ1 F H F1 H1) {p : Addr} {o : HO} (hp : H1 p = none) (nt : ∀ ps, o ≠ .tbl ps) : Cx2 K σ ρ τ ρ1 F H (upd F1 p o) (upd H1 p o) := c.nx (c.rs.new hp nt)
/-- a list that is nobody's is changed -/
theorem Cx2.other (c : Cx2 K σ ρ τ ρ1 F H F1 H1) {p : Addr} {o : HO} (hL : H1 p = none ∨ ∃ xs, H1 p = some (.lst xs)) (nt : ∀ ps, o ≠ .tbl ps) (hF : F1 p = none) (h0 : ¬ Th H p) (no : ¬ Ow τ ρ1 p) : Cx2 K σ ρ τ ρ1 F H F1 (upd H1 p o) := by
  have tab : ∀ T, LamX.Tabs T H1 → LamX.Tabs T (upd H1 p o) := fun T t => hL.elim (fun h => tabs_new h t) fun ⟨xs, h⟩ => tabs_mut h t
  refine ⟨⟨c.rs.len, tab _ c.rs.tab, c.rs.nt, Ex.mut c.rs.ex hF, c.rs.fro, fun i t ds h => ?_, c.rs.apart⟩, ⟨c.go.fr, Ex.mut c.rs.ex hF, fun a u h k n => ?_, c.go.low, fun t => tab _ (c.go.tab t), c.go.nt⟩, c.sub, fun a h => (c.thr a h).upd nt⟩
  · obtain ⟨a, vs, h1, h2, h3, h4⟩ := c.rs.own i t ds h
    exact ⟨a, vs, h1, h2, by rw [upd_ne (fun e => no (by rw [← e]; exact ⟨i, t, ds, h, h1⟩))]; exact h3, h4⟩
  · rw [upd_ne (fun e => h0 (by rw [← e]; exact ⟨u, h, k⟩))]
    exact c.go.keep a u h k n
end
/-! ### comprehensions -/
def bnd0 {α β : Type} (x : Option (Ou α)) (k : α → Rho → Option β) : Option β := match x with
  | some (.ok a ρ) => k a ρ
  | _ => none
theorem bnd0_ok {α β : Type} (a : α) (ρ : Rho) (k : α → Rho → Option β) : bnd0 (some (.ok a ρ)) k = k a ρ := rfl
def lcL (tg : DG) (tt : DB) (e : DE) (vs : List Nat) : List PyData → List PyData → Rho → Option (List PyData × Rho)
  | [], acc, ρ => some (acc, ρ)
  | d :: ds, acc, ρ => match tg d ρ with
    | none => none
    | some ρ1 => bnd0 (tt ρ1) fun b ρ2 => if b = true then bnd0 (e ρ2) fun y ρ3 => if acc.length < 100000 then lcL tg tt e vs ds (acc ++ [y]) (wipeR ρ3 vs) else none else lcL tg tt e vs ds acc (wipeR ρ2 vs)
def lcM (fl : DL) (tg : DG) (tt : DB) (e : DE) (vs : List Nat) : DL := fun ρ => bnd (fl ρ) fun ds ρ1 => (lcL tg tt e vs ds [] (wipeR ρ1 vs)).map fun r => .ok r.1 (wipeR r.2 vs)
section
variable {K : PKt} {ec : EC} {W : WX} {te : TE} {tt : TT} {wi : TI} {g : TG} {tg : DG} {f : DE} {fb : DB} {fl : DL} {is vs : List Nat} {F H F1 H1 : Hp} {σ τ : L2.St} {ρ ρ1 : Rho} {β : Type}
theorem Id.go (hh : Id K ec W wi fl) (rs : RS K F H σ ρ) {k : List PyData → Rho → Option (Ou β)} {o : Ou β} (e : bnd (fl ρ) k = some o) (hf : Fail K ec W σ ρ F H o) {R : It → Hp → Prop}
    (hk : ∀ ds ρ1 J F1 H1, Nx K σ ρ ρ1 F H F1 H1 → Itd K F1 J ds → k ds ρ1 = some o → Fail K ec W σ ρ1 F1 H1 o → R J H1) : wi σ H R := by
  unfold bnd at e
  cases ef : fl ρ with
  | none => rw [ef] at e; cases e
  | some x =>
    rw [ef] at e
    cases x with
    | ok d ρ1 => exact hh F H σ ρ _ rs ef R (fun d' ρ' e' J F' H' n dv => by cases e'; exact hk d ρ1 J F' H' n dv e (hf.step n)) Fail.ok
    | ex c d ρ1 => cases e; exact hh F H σ ρ _ rs ef R (fun d' ρ' e' => by cases e') hf.ex
theorem Ed.go0 (hh : Ed K ec W te f) (rs : RS K F H σ ρ) {k : PyData → Rho → Option β} {o : β} (e : bnd0 (f ρ) k = some o) {Q : VK}
    (hk : ∀ d ρ1 v F1 H1, Nx K σ ρ ρ1 F H F1 H1 → Dq K F1 v d → k d ρ1 = some o → Q v H1) : te σ H Q := by
  unfold bnd0 at e
  split at e
  · rename_i d ρ1 ef
    exact hh F H σ ρ _ rs ef Q (fun d' ρ' e' v F' H' n dv => by cases e'; exact hk d ρ1 v F' H' n dv e) Fail.ok
  · cases e
theorem Et.go0 (hh : Et K ec W tt fb) (rs : RS K F H σ ρ) {k : Bool → Rho → Option β} {o : β} (e : bnd0 (fb ρ) k = some o) {Q : Bool → Hp → Prop}
    (hk : ∀ b ρ1 F1 H1, Nx K σ ρ ρ1 F H F1 H1 → k b ρ1 = some o → Q b H1) : tt σ H Q := by
  unfold bnd0 at e
  split at e
  · rename_i d ρ1 ef
    exact hh F H σ ρ _ rs ef Q (fun d' ρ' e' F' H' n => by cases e'; exact hk d ρ1 F' H' n e) Fail.ok
  · cases e
theorem Id.go0 (hh : Id K ec W wi fl) (rs : RS K F H σ ρ) {k : List PyData → Rho → Option β} {o : β} (e : bnd0 (fl ρ) k = some o) {R : It → Hp → Prop}
    (hk : ∀ ds ρ1 J F1 H1, Nx K σ ρ ρ1 F H F1 H1 → Itd K F1 J ds → k ds ρ1 = some o → R J H1) : wi σ H R := by
  unfold bnd0 at e
  split at e
  · rename_i d ρ1 ef
    exact hh F H σ ρ _ rs ef R (fun d' ρ' e' J F' H' n dv => by cases e'; exact hk d ρ1 J F' H' n dv e) Fail.ok
  · cases e
/-- no name of these is left for a list of the def's own -/
theorem Gd.c2 (hg : Gd K is g tg) (hv : ∀ i ∈ is, i ∈ vs) {υ : L2.St} (hw : wipe υ vs = wipe τ vs) (hl : υ.length = τ.length) (c : Cx2 K σ ρ υ ρ1 F H F1 H1) (hno : ∀ (i : Nat) (t : Bool) (ds : List PyData), ρ1[i]? = some (.own t ds) → i ∉ vs) {x : V} {d : PyData} (dx : Dq K F1 x d) {ρ2 : Rho} (e : tg d ρ1 = some ρ2) {Q : L2.St → Hp → Prop}
    (hk : ∀ υ2, wipe υ2 vs = wipe τ vs → υ2.length = τ.length → (∀ j, j ∉ vs → υ2[j]? = υ[j]?) → Cx2 K σ ρ υ2 ρ2 F H F1 H1 → Q υ2 H1) : g x υ H1 Q := by
  refine hg F1 H1 υ ρ1 x d ρ2 c.rs dx e Q fun υ2 s2 o2 => ?_
  have oo : ∀ j, j ∉ vs → υ2[j]? = υ[j]? := fun j hj => o2 j fun m => hj (hv j m)
  refine hk υ2 ((wipe_ext s2.len oo).trans hw) (s2.len.trans hl) oo ⟨s2.rs, c.go, fun i t ds h => ?_, c.thr⟩
  rcases s2.sub i t ds h with ⟨es, e1, e2⟩ | ⟨_, a, e1, e2⟩
  · obtain ⟨es', e3, e4⟩ := c.sub i t es e1
    exact ⟨es', e3, e2.trans e4⟩
  · obtain ⟨b, ws, g1, g2, g3, g4⟩ := s2.rs.own i t ds h
    rw [e1] at g1
    cases g1
    exact absurd (Th.lst g3) e2
theorem wipeR_no {ρ : Rho} {i : Nat} {t : Bool} {ds : List PyData} (h : (wipeR ρ vs)[i]? = some (.own t ds)) : i ∉ vs := (wipeR_get ρ (by intro z; cases z) h).1
theorem eo_lc (hi : Id K ec W wi fl) (hg : Gd K is g tg) (hv : ∀ i ∈ is, i ∈ vs) (ht : Et K ec W tt fb) (he : Ed K ec W te f) : Eo K ec W (tLc wi g tt te vs) (lcM fl tg fb f vs) := by
  intro F H σ ρ o rs e Q q hf
  refine hi.go rs e hf fun ds ρ1 J F1 H1 n1 it e1 hf1 => ?_
  cases el : lcL tg fb f vs ds [] (wipeR ρ1 vs) with
  | none => rw [el] at e1; cases e1
  | some r =>
    rw [el] at e1
    cases e1
    obtain ⟨out, ρo⟩ := r
    intro A hA
    have hA0 : ¬ Th H A := fun z => Th.no hA (n1.thr A z)
    have fA : F1 A = none := fresh_back n1.rs.ex hA
    have c1 : Cx2 K σ ρ (wipe σ vs) (wipeR ρ1 vs) F H F1 H1 := n1.toC.wipe (wipe_length σ vs) fun j hj => wipe_out σ hj
    have noA : ∀ {τ : L2.St} {ρ' : Rho} {F' H' : Hp}, Cx2 K σ ρ τ ρ' F H F' H' → ¬ Ow τ ρ' A := fun c w => hA0 (rs.ow_there (c.ow w))
    have c2 : Cx2 K σ ρ (wipe σ vs) (wipeR ρ1 vs) F H F1 (upd H1 A (.lst [])) := c1.other (.inl hA) (fun ps z => by cases z) fA hA0 (noA c1)
    refine ⟨fun i m H' => ∃ ρ' F' acc accv, Cx2 K σ ρ (wipe σ vs) ρ' F H F' H' ∧ Ex F1 F' ∧ F' A = none ∧ H' A = some (.lst accv) ∧ DqAll K F' accv acc ∧ (∀ (i : Nat) (t : Bool) (ds : List PyData), ρ'[i]? = some (.own t ds) → i ∉ vs) ∧ lcL tg fb f vs (ds.drop i) acc ρ' = some (out, ρo) ∧ m = ds.length - i,
      ⟨ds.length, _, F1, [], [], c2, Ex.refl F1, fA, upd_same, .nil, fun i t ds h => wipeR_no h, el, rfl⟩, ?_⟩
    rintro i m H2 ⟨ρ2, F2, acc, accv, c2, x2, fA2, hA2, dA2, no2, e2, rfl⟩
    have ex2 : Ex F1 H2 := x2.trans c2.rs.ex
    by_cases hlt : i < ds.length
    · refine .inr ⟨it.go i ds[i] H2 ex2 (List.getElem?_eq_getElem hlt), fun H' => ∃ ρ' F' acc accv, Cx2 K σ ρ (wipe σ vs) ρ' F H F' H' ∧ Ex F1 F' ∧ F' A = none ∧ H' A = some (.lst accv) ∧ DqAll K F' accv acc ∧ (∀ (i : Nat) (t : Bool) (ds : List PyData), ρ'[i]? = some (.own t ds) → i ∉ vs) ∧ lcL tg fb f vs (ds.drop (i + 1)) acc ρ' = some (out, ρo), ?_, ?_⟩
      · rintro H' ⟨ρ', F', acc, accv, k1, k2, k3, k4, k5, k6, k7⟩
        exact ⟨ds.length - (i + 1), by omega, ρ', F', acc, accv, k1, k2, k3, k4, k5, k6, k7, rfl⟩
      · intro x H3 hy
        rw [List.drop_eq_getElem_cons hlt] at e2
        unfold lcL at e2
        have main : ∀ F3, Cx2 K σ ρ (wipe σ vs) ρ2 F H F3 H3 → Ex F1 F3 → F3 A = none → H3 A = some (.lst accv) → DqAll K F3 accv acc → Dq K F3 x ds[i] → g x (wipe σ vs) H3 fun σ2 H2 => wipe σ2 vs = wipe σ vs ∧ tt σ2 H2 fun b H3 => if b = true then te σ2 H3 fun y H4 => ∃ acc, H4 A = some (HO.lst acc) ∧ acc.length < sizeLine ∧ (∃ ρ' F' acc' accv', Cx2 K σ ρ (wipe σ vs) ρ' F H F' (upd H4 A (HO.lst (acc ++ [y]))) ∧ Ex F1 F' ∧ F' A = none ∧ (upd H4 A (HO.lst (acc ++ [y]))) A = some (.lst accv') ∧ DqAll K F' accv' acc' ∧ (∀ (i : Nat) (t : Bool) (ds : List PyData), ρ'[i]? = some (.own t ds) → i ∉ vs) ∧ lcL tg fb f vs (ds.drop (i + 1)) acc' ρ' = some (out, ρo)) else (∃ ρ' F' acc accv, Cx2 K σ ρ (wipe σ vs) ρ' F H F' H3 ∧ Ex F1 F' ∧ F' A = none ∧ H3 A = some (.lst accv) ∧ DqAll K F' accv acc ∧ (∀ (i : Nat) (t : Bool) (ds : List PyData), ρ'[i]? = some (.own t ds) → i ∉ vs) ∧ lcL tg fb f vs (ds.drop (i + 1)) acc ρ' = some (out, ρo)) := by
          intro F3 c3 x3 fA3 hA3 dA3 dx
          cases et : tg ds[i] ρ2 with
          | none => rw [et] at e2; cases e2
          | some ρ3 =>
            rw [et] at e2
            refine hg.c2 (τ := wipe σ vs) hv rfl rfl c3 no2 dx et fun υ hw hl ho c4 => ⟨hw.trans (wipe_ext (wipe_length σ vs) fun j hj => wipe_out σ hj), ?_⟩
            refine ht.go0 c4.rs e2 fun b ρ5 F5 H5 n5 e5 => ?_
            have c5 := c4.nx n5
            have fA5 : F5 A = none := n5.go.lowL fA3 hA3 (noA c4)
            have hA5 : H5 A = some (.lst accv) := n5.go.keepL hA3 (noA c4)
            have back : ∀ j, j ∉ vs → (wipe σ vs)[j]? = υ[j]? := fun j hj => (ho j hj).symm
            cases b with
            | false =>
              rw [if_neg (by decide)] at e5 ⊢
              exact ⟨wipeR ρ5 vs, F5, acc, accv, c5.wipe hl.symm back, x3.trans n5.go.fr, fA5, hA5, dA3.mono n5.go.fr, fun i t ds h => wipeR_no h, e5⟩
            | true =>
              rw [if_pos rfl] at e5 ⊢
              refine he.go0 c5.rs e5 fun y ρ6 v F6 H6 n6 dv e6 => ?_
              split at e6
              · rename_i hz
                have c6 := c5.nx n6
                have fA6 : F6 A = none := n6.go.lowL fA5 hA5 (noA c5)
                have hA6 : H6 A = some (.lst accv) := n6.go.keepL hA5 (noA c5)
                have c7 : Cx2 K σ ρ (wipe σ vs) (wipeR ρ6 vs) F H F6 H6 := c6.wipe hl.symm back
                have da : DqAll K F6 accv acc := (dA3.mono n5.go.fr).mono n6.go.fr
                exact ⟨accv, hA6, sz_lt (by rw [da.length]; exact hz), wipeR ρ6 vs, F6, acc ++ [y], accv ++ [v], c7.other (.inr ⟨_, hA6⟩) (fun ps z => by cases z) fA6 hA0 (noA c7), (x3.trans n5.go.fr).trans n6.go.fr, fA6, upd_same, da.append (.one dv), fun i t ds h => wipeR_no h, e6⟩
              · cases e6
        rcases it.yld i ds[i] F2 H2 x H3 x2 c2.rs.ex (List.getElem?_eq_getElem hlt) hy with ⟨rfl, dx⟩ | ⟨p, ob, nt, rfl, hpn, rfl, dx⟩
        · exact main F2 c2 x2 fA2 hA2 dA2 dx
        · have npA : A ≠ p := fun z => by rw [z] at hA2; rw [hA2] at hpn; cases hpn
          exact main (upd F2 p ob) (c2.new hpn nt) (x2.trans (Ex.new (fresh_back c2.rs.ex hpn))) (by rw [upd_ne npA]; exact fA2) (by rw [upd_ne npA]; exact hA2) (dA2.mono (Ex.new (fresh_back c2.rs.ex hpn))) dx
    · refine .inl ⟨it.stop i H2 ex2 (by omega), ?_⟩
      rw [List.drop_eq_nil_of_le (by omega)] at e2
      cases e2
      have c3 : Cx2 K σ ρ σ (wipeR ρo vs) F H F2 H2 := c2.wipe (wipe_length σ vs).symm fun j hj => (wipe_out σ hj).symm
      exact q _ _ rfl A accv F2 H2 c3.toNx hA0 fA2 hA2 dA2
end
end Pd

namespace Pd
open PySem L2 Evl
/-! ### comprehensions of two fors -/
def lc2I (tg1 : DG) (tt1 : DB) (e : DE) (vs1 : List Nat) : List PyData → List PyData → Rho → Option (List PyData × Rho) := lcL tg1 tt1 e vs1
def lc2L (tg : DG) (tt : DB) (fl1 : DL) (tg1 : DG) (tt1 : DB) (e : DE) (vs vs1 : List Nat) : List PyData → List PyData → Rho → Option (List PyData × Rho)
  | [], acc, ρ => some (acc, ρ)
  | d :: ds, acc, ρ => match tg d ρ with
    | none => none
    | some ρ1 => bnd0 (tt ρ1) fun b ρ2 => if b = true then bnd0 (fl1 ρ2) fun ds1 ρ3 => (lc2I tg1 tt1 e vs1 ds1 acc (wipeR ρ3 vs1)).bind fun r => lc2L tg tt fl1 tg1 tt1 e vs vs1 ds r.1 (wipeR r.2 vs) else lc2L tg tt fl1 tg1 tt1 e vs vs1 ds acc (wipeR ρ2 vs)
def lc2M (fl : DL) (tg : DG) (tt : DB) (fl1 : DL) (tg1 : DG) (tt1 : DB) (e : DE) (vs vs1 : List Nat) : DL := fun ρ => bnd (fl ρ) fun ds ρ1 => (lc2L tg tt fl1 tg1 tt1 e vs vs1 ds [] (wipeR ρ1 vs)).map fun r => .ok r.1 (wipeR r.2 vs)
section
variable {K : PKt} {ec : EC} {W : WX} {te : TE} {tt tt1 : TT} {wi wi1 : TI} {g g1 : TG} {tg tg1 : DG} {f : DE} {fb fb1 : DB} {fl fl1 : DL} {is is1 vs vs1 : List Nat} {F Hb F1 H1 : Hp} {σ τ : L2.St} {ρ ρ1 : Rho} {β : Type}
/-- what the accumulating list A is, and where -/
structure Acc (K : PKt) (F1 : Hp) (A : Addr) (vs : List Nat) (F' H' : Hp) (acc : List PyData) (ρ' : Rho) : Prop where
  x : Ex F1 F'
  fA : F' A = none
  da : ∃ accv, H' A = some (.lst accv) ∧ DqAll K F' accv acc
  no : ∀ (i : Nat) (t : Bool) (ds : List PyData), ρ'[i]? = some (.own t ds) → i ∉ vs
theorem eo_lc2 (hi : Id K ec W wi fl) (hg : Gd K is g tg) (hv : ∀ i ∈ is, i ∈ vs) (ht : Et K ec W tt fb) (hi1 : Id K ec W wi1 fl1) (hg1 : Gd K is1 g1 tg1) (hv1 : ∀ i ∈ is1, i ∈ vs1) (hvv : ∀ i ∈ vs1, i ∈ vs) (ht1 : Et K ec W tt1 fb1) (he : Ed K ec W te f) : Eo K ec W (tLc2 wi g tt wi1 g1 tt1 te vs vs1) (lc2M fl tg fb fl1 tg1 fb1 f vs vs1) := by
  intro F Hb σ ρ o rs e Q q hf
  refine hi.go rs e hf fun ds ρ1 J F1 H1 n1 it e1 hf1 => ?_
  cases el : lc2L tg fb fl1 tg1 fb1 f vs vs1 ds [] (wipeR ρ1 vs) with
  | none => rw [el] at e1; cases e1
  | some r =>
    rw [el] at e1
    cases e1
    obtain ⟨out, ρo⟩ := r
    intro A hA
    have hA0 : ¬ Th Hb A := fun z => Th.no hA (n1.thr A z)
    have fA : F1 A = none := fresh_back n1.rs.ex hA
    have c1 : Cx2 K σ ρ (wipe σ vs) (wipeR ρ1 vs) F Hb F1 H1 := n1.toC.wipe (wipe_length σ vs) fun j hj => wipe_out σ hj
    have noA : ∀ {τ : L2.St} {ρ' : Rho} {F' H' : Hp}, Cx2 K σ ρ τ ρ' F Hb F' H' → ¬ Ow τ ρ' A := fun c w => hA0 (rs.ow_there (c.ow w))
    have c2 : Cx2 K σ ρ (wipe σ vs) (wipeR ρ1 vs) F Hb F1 (upd H1 A (.lst [])) := c1.other (.inl hA) (fun ps z => by cases z) fA hA0 (noA c1)
    have accN : ∀ {τ : L2.St} {ρ' ρ'' : Rho} {F' H' F'' H'' : Hp} {acc : List PyData} {xs ys : List Nat}, Cx2 K σ ρ τ ρ' F Hb F' H' → Nx K τ ρ' ρ'' F' H' F'' H'' → Acc K F1 A xs F' H' acc ρ' → (∀ (i : Nat) (t : Bool) (ds : List PyData), ρ''[i]? = some (.own t ds) → i ∉ ys) → Acc K F1 A ys F'' H'' acc ρ'' := fun c n a no => by
      obtain ⟨accv, h1, h2⟩ := a.da
      exact ⟨a.x.trans n.go.fr, n.go.lowL a.fA h1 (noA c), ⟨accv, n.go.keepL h1 (noA c), h2.mono n.go.fr⟩, no⟩
    refine ⟨fun i m H' => ∃ ρ' F' acc, Cx2 K σ ρ (wipe σ vs) ρ' F Hb F' H' ∧ Acc K F1 A vs F' H' acc ρ' ∧ lc2L tg fb fl1 tg1 fb1 f vs vs1 (ds.drop i) acc ρ' = some (out, ρo) ∧ m = ds.length - i,
      ⟨ds.length, _, F1, [], c2, ⟨Ex.refl F1, fA, ⟨[], upd_same, .nil⟩, fun i t ds h => wipeR_no h⟩, el, rfl⟩, ?_⟩
    rintro i m H2 ⟨ρ2, F2, acc, c2, a2, e2, rfl⟩
    have ex2 : Ex F1 H2 := a2.x.trans c2.rs.ex
    by_cases hlt : i < ds.length
    · refine .inr ⟨it.go i ds[i] H2 ex2 (List.getElem?_eq_getElem hlt), fun H' => ∃ ρ' F' acc, Cx2 K σ ρ (wipe σ vs) ρ' F Hb F' H' ∧ Acc K F1 A vs F' H' acc ρ' ∧ lc2L tg fb fl1 tg1 fb1 f vs vs1 (ds.drop (i + 1)) acc ρ' = some (out, ρo), ?_, ?_⟩
      · rintro H' ⟨ρ', F', acc, k1, k2, k3⟩
        exact ⟨ds.length - (i + 1), by omega, ρ', F', acc, k1, k2, k3, rfl⟩
      · intro x H3 hy
        rw [List.drop_eq_getElem_cons hlt] at e2
        unfold lc2L at e2
        have main : ∀ F3, Cx2 K σ ρ (wipe σ vs) ρ2 F Hb F3 H3 → Acc K F1 A vs F3 H3 acc ρ2 → Dq K F3 x ds[i] → g x (wipe σ vs) H3 fun σ2 H2 => wipe σ2 vs = wipe σ vs ∧ tt σ2 H2 fun b H3 => if b = true then wi1 σ2 H3 fun J1 H4 => ∃ W1 : Nat → Nat → Hp → Prop, (∃ m, W1 0 m H4) ∧ ∀ (j k : Nat) (H : Hp), W1 j k H → J1.stop j H ∧ (∃ ρ' F' acc, Cx2 K σ ρ (wipe σ vs) ρ' F Hb F' H ∧ Acc K F1 A vs F' H acc ρ' ∧ lc2L tg fb fl1 tg1 fb1 f vs vs1 (ds.drop (i + 1)) acc ρ' = some (out, ρo)) ∨ J1.go j H ∧ ∃ Nx1 : Hp → Prop, (∀ H', Nx1 H' → ∃ k', k' < k ∧ W1 (j + 1) k' H') ∧ ∀ (x : V) (H' : Hp), J1.yld j H x H' → g1 x (wipe σ2 vs1) H' fun σ3 H5 => wipe σ3 vs1 = wipe σ2 vs1 ∧ tt1 σ3 H5 fun b H6 => if b = true then te σ3 H6 fun y H7 => ∃ acc, H7 A = some (HO.lst acc) ∧ acc.length < sizeLine ∧ Nx1 (upd H7 A (HO.lst (acc ++ [y]))) else Nx1 H6 else (∃ ρ' F' acc, Cx2 K σ ρ (wipe σ vs) ρ' F Hb F' H3 ∧ Acc K F1 A vs F' H3 acc ρ' ∧ lc2L tg fb fl1 tg1 fb1 f vs vs1 (ds.drop (i + 1)) acc ρ' = some (out, ρo)) := by
          intro F3 c3 a3 dx
          cases et : tg ds[i] ρ2 with
          | none => rw [et] at e2; cases e2
          | some ρ3 =>
            rw [et] at e2
            refine hg.c2 (τ := wipe σ vs) hv rfl rfl c3 a3.no dx et fun υ hw hl ho c4 => ⟨hw.trans (wipe_ext (wipe_length σ vs) fun j hj => wipe_out σ hj), ?_⟩
            have a4 : Acc K F1 A [] F3 H3 acc ρ3 := ⟨a3.x, a3.fA, a3.da, fun _ _ _ _ => List.not_mem_nil⟩
            refine ht.go0 c4.rs e2 fun b ρ5 F5 H5 n5 e5 => ?_
            have c5 := c4.nx n5
            have a5 : Acc K F1 A [] F5 H5 acc ρ5 := accN c4 n5 a4 fun _ _ _ _ => List.not_mem_nil
            have back : ∀ j, j ∉ vs → (wipe σ vs)[j]? = υ[j]? := fun j hj => (ho j hj).symm
            cases b with
            | false =>
              rw [if_neg (by decide)] at e5 ⊢
              exact ⟨wipeR ρ5 vs, F5, acc, c5.wipe hl.symm back, ⟨a5.x, a5.fA, a5.da, fun i t ds h => wipeR_no h⟩, e5⟩
            | true =>
              rw [if_pos rfl] at e5 ⊢
              refine hi1.go0 c5.rs e5 fun ds1 ρ6 J1 F6 H6 n6 it1 e6 => ?_
              have c6 := c5.nx n6
              have a6 : Acc K F1 A [] F6 H6 acc ρ6 := accN c5 n6 a5 fun _ _ _ _ => List.not_mem_nil
              cases el1 : lc2I tg1 fb1 f vs1 ds1 acc (wipeR ρ6 vs1) with
              | none => rw [el1] at e6; cases e6
              | some rr =>
                rw [el1] at e6
                obtain ⟨out1, ρr⟩ := rr
                have e6' : lc2L tg fb fl1 tg1 fb1 f vs vs1 (ds.drop (i + 1)) out1 (wipeR ρr vs) = some (out, ρo) := e6
                have c7 : Cx2 K σ ρ (wipe υ vs1) (wipeR ρ6 vs1) F Hb F6 H6 := c6.wipe (wipe_length υ vs1) fun j hj => wipe_out υ hj
                refine ⟨fun j k H' => ∃ ρ' F' acc', Cx2 K σ ρ (wipe υ vs1) ρ' F Hb F' H' ∧ Ex F6 F' ∧ Acc K F1 A vs1 F' H' acc' ρ' ∧ lcL tg1 fb1 f vs1 (ds1.drop j) acc' ρ' = some (out1, ρr) ∧ k = ds1.length - j, ⟨ds1.length, _, F6, acc, c7, Ex.refl F6, ⟨a6.x, a6.fA, a6.da, fun i t ds h => wipeR_no h⟩, el1, rfl⟩, ?_⟩
                rintro j k H8 ⟨ρ8, F8, acc8, c8, x8, a8, e8, rfl⟩
                by_cases hlt1 : j < ds1.length
                · refine .inr ⟨it1.go j ds1[j] H8 (x8.trans c8.rs.ex) (List.getElem?_eq_getElem hlt1), fun H' => ∃ ρ' F' acc', Cx2 K σ ρ (wipe υ vs1) ρ' F Hb F' H' ∧ Ex F6 F' ∧ Acc K F1 A vs1 F' H' acc' ρ' ∧ lcL tg1 fb1 f vs1 (ds1.drop (j + 1)) acc' ρ' = some (out1, ρr), ?_, ?_⟩
                  · rintro H' ⟨ρ', F', acc', k1, k2, k3, k4⟩
                    exact ⟨ds1.length - (j + 1), by omega, ρ', F', acc', k1, k2, k3, k4, rfl⟩
                  · intro x1 H9 hy1
                    rw [List.drop_eq_getElem_cons hlt1] at e8
                    unfold lcL at e8
                    have main1 : ∀ F9, Cx2 K σ ρ (wipe υ vs1) ρ8 F Hb F9 H9 → Ex F6 F9 → Acc K F1 A vs1 F9 H9 acc8 ρ8 → Dq K F9 x1 ds1[j] → g1 x1 (wipe υ vs1) H9 fun σ3 H5 => wipe σ3 vs1 = wipe υ vs1 ∧ tt1 σ3 H5 fun b H6 => if b = true then te σ3 H6 fun y H7 => ∃ acc, H7 A = some (HO.lst acc) ∧ acc.length < sizeLine ∧ (∃ ρ' F' acc', Cx2 K σ ρ (wipe υ vs1) ρ' F Hb F' (upd H7 A (HO.lst (acc ++ [y]))) ∧ Ex F6 F' ∧ Acc K F1 A vs1 F' (upd H7 A (HO.lst (acc ++ [y]))) acc' ρ' ∧ lcL tg1 fb1 f vs1 (ds1.drop (j + 1)) acc' ρ' = some (out1, ρr)) else (∃ ρ' F' acc', Cx2 K σ ρ (wipe υ vs1) ρ' F Hb F' H6 ∧ Ex F6 F' ∧ Acc K F1 A vs1 F' H6 acc' ρ' ∧ lcL tg1 fb1 f vs1 (ds1.drop (j + 1)) acc' ρ' = some (out1, ρr)) := by
                      intro F9 c9 x9 a9 dx1
                      cases et1 : tg1 ds1[j] ρ8 with
                      | none => rw [et1] at e8; cases e8
                      | some ρ10 =>
                        rw [et1] at e8
                        refine hg1.c2 (τ := wipe υ vs1) hv1 rfl rfl c9 a9.no dx1 et1 fun φ hw1 hl1 ho1 c10 => ⟨hw1.trans (wipe_ext (wipe_length υ vs1) fun j hj => wipe_out υ hj), ?_⟩
                        have a10 : Acc K F1 A [] F9 H9 acc8 ρ10 := ⟨a9.x, a9.fA, a9.da, fun _ _ _ _ => List.not_mem_nil⟩
                        refine ht1.go0 c10.rs e8 fun b ρ11 F11 H11 n11 e11 => ?_
                        have c11 := c10.nx n11
                        have a11 : Acc K F1 A [] F11 H11 acc8 ρ11 := accN c10 n11 a10 fun _ _ _ _ => List.not_mem_nil
                        have back1 : ∀ j, j ∉ vs1 → (wipe υ vs1)[j]? = φ[j]? := fun j hj => (ho1 j hj).symm
                        cases b with
                        | false =>
                          rw [if_neg (by decide)] at e11 ⊢
                          exact ⟨wipeR ρ11 vs1, F11, acc8, c11.wipe hl1.symm back1, x9.trans n11.go.fr, ⟨a11.x, a11.fA, a11.da, fun i t ds h => wipeR_no h⟩, e11⟩
                        | true =>
                          rw [if_pos rfl] at e11 ⊢
                          refine he.go0 c11.rs e11 fun y ρ12 v F12 H12 n12 dv e12 => ?_
                          split at e12
                          · rename_i hz
                            have c12 := c11.nx n12
                            obtain ⟨accv, hA12, da12⟩ := (accN c11 n12 a11 (ys := []) fun _ _ _ _ => List.not_mem_nil).da
                            have a12 := accN c11 n12 a11 (ys := []) fun _ _ _ _ => List.not_mem_nil
                            have c13 : Cx2 K σ ρ (wipe υ vs1) (wipeR ρ12 vs1) F Hb F12 H12 := c12.wipe hl1.symm back1
                            exact ⟨accv, hA12, sz_lt (by rw [da12.length]; exact hz), wipeR ρ12 vs1, F12, acc8 ++ [y], c13.other (.inr ⟨_, hA12⟩) (fun ps z => by cases z) a12.fA hA0 (noA c13), (x9.trans n11.go.fr).trans n12.go.fr, ⟨a12.x, a12.fA, ⟨_, upd_same, da12.append (.one dv)⟩, fun i t ds h => wipeR_no h⟩, e12⟩
                          · cases e12
                    rcases it1.yld j ds1[j] F8 H8 x1 H9 x8 c8.rs.ex (List.getElem?_eq_getElem hlt1) hy1 with ⟨rfl, dx1⟩ | ⟨p, ob, nt, rfl, hpn, rfl, dx1⟩
                    · exact main1 F8 c8 x8 a8 dx1
                    · exact main1 (upd F8 p ob) (c8.new hpn nt) (x8.trans (Ex.new (fresh_back c8.rs.ex hpn))) (accN c8 (c8.rs.new hpn nt) a8 a8.no) dx1
                · refine .inl ⟨it1.stop j H8 (x8.trans c8.rs.ex) (by omega), ?_⟩
                  rw [List.drop_eq_nil_of_le (by omega)] at e8
                  cases e8
                  refine ⟨wipeR ρr vs, F8, out1, c8.wipe ?_ fun j hj => ?_, ⟨a8.x, a8.fA, a8.da, fun i t ds h => wipeR_no h⟩, e6'⟩
                  · rw [wipe_length, wipe_length, hl, wipe_length]
                  · rw [wipe_out υ fun m => hj (hvv j m)]
                    exact back j hj
        rcases it.yld i ds[i] F2 H2 x H3 a2.x c2.rs.ex (List.getElem?_eq_getElem hlt) hy with ⟨rfl, dx⟩ | ⟨p, ob, nt, rfl, hpn, rfl, dx⟩
        · exact main F2 c2 a2 dx
        · obtain ⟨accv, hA2, dA2⟩ := a2.da
          exact main (upd F2 p ob) (c2.new hpn nt) (accN c2 (c2.rs.new hpn nt) a2 a2.no) dx
    · refine .inl ⟨it.stop i H2 ex2 (by omega), ?_⟩
      rw [List.drop_eq_nil_of_le (by omega)] at e2
      cases e2
      have c3 : Cx2 K σ ρ σ (wipeR ρo vs) F Hb F2 H2 := c2.wipe (wipe_length σ vs).symm fun j hj => (wipe_out σ hj).symm
      obtain ⟨accv, hA2, dA2⟩ := a2.da
      exact q _ _ rfl A accv F2 H2 c3.toNx hA0 a2.fA hA2 dA2
end
end Pd

namespace Pd
open PySem L2 Evl
/-! ### promises -/
abbrev FnQ := List PyData → Option PyData
inductive Rs where
  | ok (d : PyData)
  | er (c : Nat) (d : PyData)
abbrev FnE := List PyData → Option Rs
abbrev FnN := List PyData → Option (List PyData)
/-- box and further arguments to value and box -/
abbrev FnB := List PyData → List PyData → Option (PyData × List PyData)
def no1 : Addr → Prop := fun _ => False
def spQ (K : PKt) (n : Nat) (f : FnQ) : Sp := fun vs H Q _ => LamX.Tabs K.T H ∧ ∃ F ds d, Nt F ∧ Ex F H ∧ DqAll K F vs ds ∧ ds.length = n ∧ f ds = some d ∧ ∀ v F' H', Go K.T no1 F H F' H' → Dq K F' v d → Q v H'
def spE (K : PKt) (ec : EC) (n : Nat) (f : FnE) : Sp := fun vs H Q E => LamX.Tabs K.T H ∧ ∃ F ds r, Nt F ∧ Ex F H ∧ DqAll K F vs ds ∧ ds.length = n ∧ f ds = some r ∧
  (∀ d, r = .ok d → ∀ v F' H', Go K.T no1 F H F' H' → Dq K F' v d → Q v H') ∧ (∀ c d, r = .er c d → ∀ cls dd F' H', Go K.T no1 F H F' H' → Xr K ec F' H' c d cls dd → E cls dd H')
/-- a new list -/
def spN (K : PKt) (n : Nat) (f : FnN) : Sp := fun vs H Q _ => LamX.Tabs K.T H ∧ ∃ F ds es, Nt F ∧ Ex F H ∧ DqAll K F vs ds ∧ ds.length = n ∧ f ds = some es ∧ ∀ a ws F' H', Go K.T no1 F H F' H' → ¬ Th H a → F' a = none → H' a = some (.lst ws) → DqAll K F' ws es → Q (.ref a) H'
/-- the first argument is a list that is lent -/
def spB (K : PKt) (n : Nat) (f : FnB) : Sp := fun vs H Q _ => LamX.Tabs K.T H ∧ ∃ F a bs bd ws ds d bd', vs = .ref a :: ws ∧ Nt F ∧ Ex F H ∧ F a = none ∧ H a = some (.lst bs) ∧ DqAll K F bs bd ∧ DqAll K F ws ds ∧ ds.length = n ∧ f bd ds = some (d, bd') ∧
  ∀ v F' H' bs', Go K.T (· = a) F H F' H' → F' a = none → H' a = some (.lst bs') → DqAll K F' bs' bd' → Dq K F' v d → Q v H'
/-- the same, a new list is the value -/
abbrev FnBN := List PyData → List PyData → Option (List PyData × List PyData)
section
variable {K : PKt} {ec : EC} {W : WX} {F H F1 H1 : Hp} {σ : L2.St} {ρ : Rho} {te : TE} {tl : TA} {tt : TT} {ts : TS} {fl : DL} {f : DE} {fb : DB} {gs : DS}
theorem spQ.mono {n : Nat} {f g : FnQ} (h : ∀ ds d, ds.length = n → f ds = some d → g ds = some d) {vs : List V} {Q : VK} {E : XK} (s : spQ K n f vs H Q E) : spQ K n g vs H Q E := by
  obtain ⟨h0, F, ds, d, hnt, h1, h2, h3, h4, h5⟩ := s
  exact ⟨h0, F, ds, d, hnt, h1, h2, h3, h ds d h3 h4, h5⟩
theorem RS.back (r : RS K F H σ ρ) (g : Go K.T no1 F H F1 H1) : Nx K σ ρ ρ F H F1 H1 := by
  refine ⟨⟨r.len, g.tab r.tab, g.nt r.nt, g.ex, fun i d h => ?_, fun i t ds h => ?_, r.apart⟩, ⟨g.fr, g.ex, fun a o h k _ => g.keep a o h k id, fun a h1 h2 _ => g.low a h1 h2 id, g.tab, g.nt⟩, fun _ _ ds h => ⟨ds, h⟩, fun a h => g.thr h id⟩
  · obtain ⟨v, h1, h2⟩ := r.fro i d h
    exact ⟨v, h1, h2.mono g.fr⟩
  · obtain ⟨a, vs, h1, h2, h3, h4⟩ := r.own i t ds h
    exact ⟨a, vs, h1, g.lowL h2 h3 id, g.keepL h3 id, h4.mono g.fr⟩
/-- a name's own list was lent -/
theorem RS.lent (r : RS K F H σ ρ) {i : Nat} {t : Bool} {ds es : List PyData} {a : Addr} {ws : List V} (hi : ρ[i]? = some (.own t ds)) (ha : σ[i]? = some (some (.ref a))) (g : Go K.T (· = a) F H F1 H1) (fa : F1 a = none) (h1 : H1 a = some (.lst ws)) (dv : DqAll K F1 ws es) : Nx K σ ρ (ρ.set i (.own t es)) F H F1 H1 := by
  have w : Ow σ ρ a := ⟨i, t, ds, hi, ha⟩
  refine ⟨⟨by rw [List.length_set]; exact r.len, g.tab r.tab, g.nt r.nt, g.ex, fun j d h => ?_, fun j u ws h => ?_, fun j k u u' ws xs b hjk h1 h2 h3 h4 => ?_⟩, ⟨g.fr, g.ex, fun b o h k n => g.keep b o h k fun e => n (by rw [e]; exact w), fun b h1 h2 n => g.low b h1 h2 fun e => n (by rw [e]; exact w), g.tab, g.nt⟩, fun j u ws h => ?_, fun b h => ?_⟩
  · rcases get_set h with ⟨rfl, e', hl⟩ | ⟨hj, h⟩
    · cases e'
    · obtain ⟨v, x1, x2⟩ := r.fro j d h
      exact ⟨v, x1, x2.mono g.fr⟩
  · rcases get_set h with ⟨rfl, e', hl⟩ | ⟨hj, h⟩
    · cases e'
      exact ⟨a, _, ha, fa, h1, dv⟩
    · obtain ⟨b, xs, x1, x2, x3, x4⟩ := r.own j u ws h
      have ne : b ≠ a := fun e => by
        subst e
        exact r.apart j i u t ws ds b hj h hi x1 ha
      exact ⟨b, xs, x1, g.lowL x2 x3 ne, g.keepL x3 ne, x4.mono g.fr⟩
  · have get : ∀ {j : Nat} {u : Bool} {ws : List PyData}, (ρ.set i (.own t es))[j]? = some (.own u ws) → ∃ ws', ρ[j]? = some (.own u ws') := fun {j u ws} h => by
      rcases get_set h with ⟨rfl, e', hl⟩ | ⟨hj, h⟩
      · cases e'
        exact ⟨ds, hi⟩
      · exact ⟨ws, h⟩
    obtain ⟨w1, g1⟩ := get h1
    obtain ⟨w2, g2⟩ := get h2
    exact r.apart j k u u' w1 w2 b hjk g1 g2 h3 h4
  · rcases get_set h with ⟨rfl, e', hl⟩ | ⟨hj, h⟩
    · cases e'
      exact ⟨ds, hi⟩
    · exact ⟨ws, h⟩
  · by_cases e : b = a
    · rw [e]; exact Th.lst h1
    · exact g.thr h e
/-! ### calls -/
def callM (n : Nat) (fn : FnQ) (fl : DL) : DE := fun ρ => bnd (fl ρ) fun as ρ1 => if as.length = n then (fn as).map fun d => .ok d ρ1 else none
theorem ed_call {n : Nat} {fn : FnQ} {E : XK} (h : Ea K ec W tl fl) : Ed K ec W (tCall (spQ K n fn) [] E tl) (callM n fn fl) := by
  intro F H σ ρ o rs e Q q hf
  refine h.go rs e hf fun as ρ1 vs F1 H1 n1 dv e1 hf1 => ?_
  split at e1
  · rename_i hn
    cases ef : fn as with
    | none => rw [ef] at e1; cases e1
    | some d =>
      rw [ef] at e1
      cases e1
      exact ⟨n1.rs.tab, F1, as, d, n1.rs.nt, n1.rs.ex, by rw [List.append_nil]; exact dv, hn, ef, fun v F' H' g dv' => q d ρ1 rfl v F' H' (n1.trans (n1.rs.back g)) dv'⟩
  · cases e1
def callE (n : Nat) (fn : FnE) (fl : DL) : DE := fun ρ => bnd (fl ρ) fun as ρ1 => if as.length = n then (fn as).map fun r => match r with | .ok d => .ok d ρ1 | .er c d => .ex c d ρ1 else none
theorem ed_callE {n : Nat} {fn : FnE} (h : Ea K ec W tl fl) : Ed K ec W (tCallS (spE K ec n fn) (WE W) tl) (callE n fn fl) := by
  intro F H σ ρ o rs e Q q hf
  refine h.go rs e hf fun as ρ1 vs F1 H1 n1 dv e1 hf1 => ?_
  split at e1
  · rename_i hn
    cases ef : fn as with
    | none => rw [ef] at e1; cases e1
    | some r =>
      rw [ef] at e1
      refine ⟨n1.rs.tab, F1, as, r, n1.rs.nt, n1.rs.ex, dv, hn, ef, fun d er v F' H' g dv' => ?_, fun c d er cls dd F' H' g x => ?_⟩
      · subst er
        cases e1
        exact q d ρ1 rfl v F' H' (n1.trans (n1.rs.back g)) dv'
      · subst er
        cases e1
        exact hf1 c d ρ1 rfl cls dd F' H' (n1.rs.back g) x
  · cases e1
def callN (n : Nat) (fn : FnN) (fl : DL) : DL := fun ρ => bnd (fl ρ) fun as ρ1 => if as.length = n then (fn as).map fun d => .ok d ρ1 else none
theorem eo_call {n : Nat} {fn : FnN} {E : XK} (h : Ea K ec W tl fl) : Eo K ec W (tCall (spN K n fn) [] E tl) (callN n fn fl) := by
  intro F H σ ρ o rs e Q q hf
  refine h.go rs e hf fun as ρ1 vs F1 H1 n1 dv e1 hf1 => ?_
  split at e1
  · rename_i hn
    cases ef : fn as with
    | none => rw [ef] at e1; cases e1
    | some d =>
      rw [ef] at e1
      cases e1
      exact ⟨n1.rs.tab, F1, as, d, n1.rs.nt, n1.rs.ex, by rw [List.append_nil]; exact dv, hn, ef, fun a ws F' H' g ha fa h' dv' => q d ρ1 rfl a ws F' H' (n1.trans (n1.rs.back g)) (none_back n1.thr ha) fa h' dv'⟩
  · cases e1
def callB (n i : Nat) (fn : FnB) (fl : DL) : DE := fun ρ => match ρ[i]? with
  | some (.own _ _) => bnd (fl ρ) fun as ρ1 => match ρ1[i]? with
    | some (.own t bd) => if as.length = n then (fn bd as).map fun r => .ok r.1 (ρ1.set i (.own t r.2)) else none
    | _ => none
  | _ => none
theorem ed_callB {n i : Nat} {fn : FnB} {E : XK} (h : Ea K ec W tl fl) : Ed K ec W (tCall (spB K n fn) [] E (tCons (tVar i) tl)) (callB n i fn fl) := by
  intro F H σ ρ o rs e Q q hf
  unfold callB at e
  split at e
  · rename_i t0 ds0 h0
    obtain ⟨a, vs0, h1, h2, h3, h4⟩ := rs.own i t0 ds0 h0
    refine ⟨.ref a, h1, ?_⟩
    refine h.go rs e hf fun as ρ1 vs F1 H1 n1 dv e1 hf1 => ?_
    split at e1
    · rename_i t bd hh
      obtain ⟨b, ws, g1, g2, g3, g4⟩ := n1.rs.own i t bd hh
      rw [h1] at g1
      cases g1
      split at e1
      · rename_i hn
        cases ef : fn bd as with
        | none => rw [ef] at e1; cases e1
        | some r =>
          rw [ef] at e1
          cases e1
          refine ⟨n1.rs.tab, F1, a, ws, bd, vs, as, r.1, r.2, by rw [List.append_nil], n1.rs.nt, n1.rs.ex, g2, g3, g4, dv, hn, ef, fun v F' H' bs' g fa h' db dv' => ?_⟩
          exact q r.1 _ rfl v F' H' (n1.trans (n1.rs.lent hh h1 g fa h' db)) dv'
      · cases e1
    · cases e1
  · cases e
/-! ### raising -/
def raiseS (c : Nat) (f : DE) : DS := fun ρ => bndS (f ρ) fun d ρ1 => some (.ex c d ρ1)
theorem xr_new {c : Nat} {v : V} {d : PyData} (rs : RS K F H σ ρ) (dv : Dq K F v d) {a : Addr} (ha : H a = none) : Nx K σ ρ ρ F H F (upd H a (.xd [(ec.fld c, v)])) ∧ Xr K ec F (upd H a (.xd [(ec.fld c, v)])) c d (.ref (ec.C c)) (some a) :=
  ⟨rs.newOwn ha (fun ps z => by cases z), rfl, a, v, rfl, upd_same, dv⟩
theorem sd_raiseA {c : Nat} (hc : ec.fld c = "at") (h : Ed K ec W te f) : Sd K ec W (tRaiseA (ec.C c) W (tCons te tNil)) (raiseS c f) := by
  intro F H σ ρ oc rs e D hp
  refine h.goS rs e hp fun d ρ1 v F1 H1 n dv e1 hp1 => ?_
  cases e1
  refine ⟨v, rfl, fun a ha => ?_⟩
  have x := xr_new (ec := ec) (c := c) n.rs dv ha
  rw [hc] at x
  exact hp1 _ _ σ F1 _ x.1.sx x.2
/-! ### while -/
def whileN (c : DB) (b : DS) : Nat → DS
  | 0 => fun _ => none
  | n + 1 => fun ρ => bndS (c ρ) fun k ρ1 => if k = true then (match b ρ1 with
    | some (.nx ρ2) => whileN c b n ρ2
    | some (.ct ρ2) => whileN c b n ρ2
    | some (.bk ρ2) => some (.nx ρ2)
    | x => x) else some (.nx ρ1)
theorem sd_whileN {n : Nat} (hc : Et K ec W tt fb) (hb : Sd K ec W ts gs) : Sd K ec W (tWhile tt ts) (whileN fb gs n) := by
  intro F H σ ρ oc rs e D hp
  refine ⟨fun m σ' H' => ∃ ρ' F', Sx K σ ρ σ' ρ' F H F' H' ∧ whileN fb gs m ρ' = some oc, ⟨n, ρ, F, (Nx.refl rs).sx, e⟩, ?_⟩
  rintro m σ1 H1 ⟨ρ1, F1, s1, e1⟩
  cases m with
  | zero => cases e1
  | succ m =>
    unfold whileN at e1
    refine hc.goS s1.rs e1 (hp.step s1) fun b ρ2 F2 H2 n2 e2 hp2 => ?_
    have s2 := s1.trans n2.sx
    cases b with
    | false =>
      rw [if_neg (by decide)] at e2 ⊢
      cases e2
      exact hp2 σ1 F2 H2 (Nx.refl n2.rs).sx
    | true =>
      rw [if_pos rfl] at e2 ⊢
      refine ⟨fun σ' H' => ∃ ρ' F', Sx K σ ρ σ' ρ' F H F' H' ∧ whileN fb gs m ρ' = some oc, fun σ' H' ⟨ρ', F', a, b⟩ => ⟨m, Nat.lt_succ_self m, ρ', F', a, b⟩, ?_⟩
      cases eb : gs ρ2 with
      | none => rw [eb] at e2; cases e2
      | some ob =>
        rw [eb] at e2
        refine hb F2 H2 σ1 ρ2 ob n2.rs eb _ ?_
        cases ob with
        | nx ρ' => exact fun σ' F' H' s' => ⟨ρ', F', s2.trans s', e2⟩
        | ct ρ' => exact fun σ' F' H' s' => ⟨ρ', F', s2.trans s', e2⟩
        | bk ρ' => cases e2; exact fun σ' F' H' s' => hp2 σ' F' H' s'
        | rt d ρ' => cases e2; exact fun v σ' F' H' s' dv => hp2 v σ' F' H' s' dv
        | ro ds ρ' => cases e2; exact hp2
        | ex c d ρ' => cases e2; exact fun cls dd σ' F' H' s' x => hp2 cls dd σ' F' H' s' x
/-- with as many turns as are needed -/
noncomputable def whileS (c : DB) (b : DS) : DS := fun ρ => open Classical in if h : ∃ n, (whileN c b n ρ).isSome = true then whileN c b h.choose ρ else none
theorem sd_while (hc : Et K ec W tt fb) (hb : Sd K ec W ts gs) : Sd K ec W (tWhile tt ts) (whileS fb gs) := by
  intro F H σ ρ oc rs e D hp
  unfold whileS at e
  split at e
  · exact sd_whileN hc hb F H σ ρ oc rs e D hp
  · cases e
theorem whileN_up {c : DB} {b : DS} : ∀ {n m : Nat} {ρ : Rho} {oc : Oc}, n ≤ m → whileN c b n ρ = some oc → whileN c b m ρ = some oc
  | 0, _, _, _, _, e => by cases e
  | n + 1, 0, _, _, h, _ => absurd h (by omega)
  | n + 1, m + 1, ρ, oc, h, e => by
    unfold whileN bndS at e ⊢
    cases ec : c ρ with
    | none => rw [ec] at e; cases e
    | some x =>
      rw [ec] at e
      cases x with
      | ex c d ρ1 => exact e
      | ok k ρ1 =>
        cases k with
        | false => exact e
        | true =>
          simp only [if_true] at e ⊢
          cases eb : b ρ1 with
          | none => rw [eb] at e; cases e
          | some ob =>
            rw [eb] at e
            cases ob with
            | nx ρ' => exact whileN_up (by omega) e
            | ct ρ' => exact whileN_up (by omega) e
            | _ => exact e
theorem whileS_of {c : DB} {b : DS} {n : Nat} {ρ : Rho} {oc : Oc} (e : whileN c b n ρ = some oc) : whileS c b ρ = some oc := by
  have h : ∃ n, (whileN c b n ρ).isSome = true := ⟨n, by rw [e]; rfl⟩
  unfold whileS
  rw [dif_pos h]
  have h2 := h.choose_spec
  cases e2 : whileN c b h.choose ρ with
  | none => rw [e2] at h2; cases h2
  | some o2 =>
    have a := whileN_up (Nat.le_max_left n h.choose) e
    have b' := whileN_up (Nat.le_max_right n h.choose) e2
    rw [a] at b'
    exact b'.symm
/-! ### x[i] = e, x a list of its own -/
def at? (n : Nat) (i : Int) : Option Nat := if 0 ≤ i then (if i < n then some i.toNat else none) else if -(n : Int) ≤ i then some (i + n).toNat else none
def setS (i : Nat) (fi fe : DE) : DS := fun ρ => bndS (fe ρ) fun d ρ1 => match ρ1[i]? with
  | some (.own _ _) => bndS (fi ρ1) fun k ρ2 => match k, ρ2[i]? with
    | .int k, some (.own t ds) => (at? ds.length k).map fun j => .nx (ρ2.set i (.own t (ds.set j d)))
    | _, _ => none
  | _ => none
theorem sd_set {i : Nat} {ti : TE} {fi : DE} (hi : Ed K ec W ti fi) (h : Ed K ec W te f) : Sd K ec W (tAsg te (gSub (tVar i) ti rSetL)) (setS i fi f) := by
  intro F H σ ρ oc rs e D hp
  refine h.goS rs e hp fun d ρ1 v F1 H1 n1 dv e1 hp1 => ?_
  split at e1
  · rename_i t0 ds0 h0
    obtain ⟨a, vs, h1, h2, h3, h4⟩ := n1.rs.own i t0 ds0 h0
    refine ⟨.ref a, h1, ?_⟩
    refine hi.goS n1.rs e1 hp1 fun k ρ2 vk F2 H2 n2 dk e2 hp2 => ?_
    split at e2
    · rename_i k t ds hh
      obtain ⟨b, ws, g1, g2, g3, g4⟩ := n2.rs.own i t ds hh
      rw [h1] at g1
      cases g1
      cases ek : at? ds.length k with
      | none => rw [ek] at e2; cases e2
      | some j =>
        rw [ek] at e2
        cases e2
        cases dk with
        | int _ =>
          refine ⟨a, ws, k, j, rfl, rfl, g3, by rw [g4.length]; exact ek, ?_⟩
          exact hp2 σ F2 _ (n2.rs.mut hh h1 (g4.set (dv.mono n2.go.fr) j)).sx
    · cases e2
  · cases e1
end
/-! ### defs -/
def rho0 (N : Nat) (ds : List PyData) : Rho := ds.map .fro ++ List.replicate (N - ds.length) .no
def outQ : Oc → Option PyData
  | .rt d _ => some d
  | .ro ds _ => some (.list ds)
  | .nx _ => some .none
  | _ => none
def outE : Oc → Option Rs
  | .rt d _ => some (.ok d)
  | .ro ds _ => some (.ok (.list ds))
  | .nx _ => some (.ok .none)
  | .ex c d _ => some (.er c d)
  | _ => none
def outN : Oc → Option (List PyData)
  | .ro ds _ => some ds
  | _ => none
def denQ (N : Nat) (g : DS) : FnQ := fun ds => (g (rho0 N ds)).bind outQ
def denE (N : Nat) (g : DS) : FnE := fun ds => (g (rho0 N ds)).bind outE
def denN (N : Nat) (g : DS) : FnN := fun ds => (g (rho0 N ds)).bind outN
def rhoB (N : Nat) (bd ds : List PyData) : Rho := .own true bd :: (ds.map .fro ++ List.replicate (N - (ds.length + 1)) .no)
def outB : Oc → Option (PyData × List PyData)
  | .rt d (.own true bd :: _) => some (d, bd)
  | .ro ds (.own true bd :: _) => some (.list ds, bd)
  | .nx (.own true bd :: _) => some (.none, bd)
  | _ => none
def denB (N : Nat) (g : DS) : FnB := fun bd ds => (g (rhoB N bd ds)).bind outB
section
variable {K : PKt} {ec : EC} {W : WX} {F H : Hp} {ts : TS} {gs : DS} {N : List Str} {vs : List V} {ds : List PyData}
theorem rho0_own {n i : Nat} {t : Bool} {es : List PyData} (h : (rho0 n ds)[i]? = some (.own t es)) : False := by
  unfold rho0 at h
  rw [List.getElem?_append] at h
  split at h
  · rw [List.getElem?_map] at h
    cases e : ds[i]? with
    | none => rw [e] at h; cases h
    | some d => rw [e] at h; cases h
  · rw [List.getElem?_replicate] at h
    split at h <;> cases h
theorem rs_start (tb : LamX.Tabs K.T H) (nt : Nt F) (e : Ex F H) (dv : DqAll K F vs ds) : RS K F H (L2.start N vs) (rho0 N.length ds) := by
  refine ⟨?_, tb, nt, e, fun i d h => ?_, fun i t es h => (rho0_own h).elim, fun i j t u ds es a _ h => (rho0_own h).elim⟩
  · unfold rho0 L2.start
    rw [List.length_append, List.length_append, List.length_map, List.length_map, List.length_replicate, List.length_replicate, dv.length]
  · unfold rho0 at h
    rw [List.getElem?_append] at h
    split at h
    · rename_i hi
      rw [List.length_map] at hi
      rw [List.getElem?_map] at h
      cases ed : ds[i]? with
      | none => rw [ed] at h; cases h
      | some d' =>
        rw [ed] at h
        cases h
        obtain ⟨v, h1, h2⟩ := dv.get ed
        refine ⟨v, ?_, h2⟩
        unfold L2.start
        rw [List.getElem?_append_left (by rw [List.length_map, dv.length]; exact hi), List.getElem?_map, h1]
        rfl
    · rw [List.getElem?_replicate] at h
      split at h <;> cases h
theorem go_start {σ σ' : L2.St} {ρ' : Rho} {n : Nat} {F' H' : Hp} (s : Sx K σ (rho0 n ds) σ' ρ' F H F' H') : Go K.T no1 F H F' H' :=
  ⟨s.go.fr, s.go.ex, fun a o h k _ => s.go.keep a o h k fun ⟨i, t, es, w, _⟩ => rho0_own w, fun a h1 h2 _ => s.go.low a h1 h2 fun ⟨i, t, es, w, _⟩ => rho0_own w, s.go.tab, s.go.nt⟩
theorem body_Q (hb : Sd K ec W ts gs) {n : Nat} {Q : VK} {E : XK} (h : spQ K n (denQ N.length gs) vs H Q E) : ts { nx := fun _ H' => Q .non H', rt := Q } (L2.start N vs) H := by
  obtain ⟨h0, F, ds, d, hnt, h1, h2, h3, h4, h5⟩ := h
  unfold denQ at h4
  cases eg : gs (rho0 N.length ds) with
  | none => rw [eg] at h4; cases h4
  | some oc =>
    rw [eg] at h4
    refine hb F H (L2.start N vs) (rho0 N.length ds) oc (rs_start h0 hnt h1 h2) eg _ ?_
    cases oc with
    | nx ρ' => cases h4; exact fun σ' F' H' s => h5 .non F' H' (go_start s) .non
    | rt d ρ' => cases h4; exact fun v σ' F' H' s dv => h5 v F' H' (go_start s) dv
    | ro es ρ' =>
      cases h4
      exact fun a ws σ' F' H' s ha fa h' dv => h5 (.ref a) (upd F' a (.lst ws)) H' ⟨s.go.fr.trans (Ex.new fa), fun b u hb => by
        by_cases e : b = a
        · subst e; rw [upd_same] at hb; rw [h']; exact hb
        · rw [upd_ne e] at hb; exact s.rs.ex b u hb, (go_start s).keep, fun b k1 k2 k3 => by
        rw [upd_ne (fun e => ha (by rw [← e]; exact k2.th))]
        exact (go_start s).low b k1 k2 k3, s.go.tab, fun h => (s.go.nt h).lst⟩ (.lst upd_same (dv.mono (Ex.new fa)))
    | _ => cases h4
theorem body_N (hb : Sd K ec W ts gs) {n : Nat} {Q : VK} {E : XK} (h : spN K n (denN N.length gs) vs H Q E) : ts { nx := fun _ H' => Q .non H', rt := Q } (L2.start N vs) H := by
  obtain ⟨h0, F, ds, d, hnt, h1, h2, h3, h4, h5⟩ := h
  unfold denN at h4
  cases eg : gs (rho0 N.length ds) with
  | none => rw [eg] at h4; cases h4
  | some oc =>
    rw [eg] at h4
    refine hb F H (L2.start N vs) (rho0 N.length ds) oc (rs_start h0 hnt h1 h2) eg _ ?_
    cases oc with
    | ro es ρ' => cases h4; exact fun a ws σ' F' H' s ha fa h' dv => h5 a ws F' H' (go_start s) ha fa h' dv
    | _ => cases h4
theorem body_E {n : Nat} {Q : VK} {E : XK} (hb : Sd K ec (fun cls d _ H => E cls d H) ts gs) (h : spE K ec n (denE N.length gs) vs H Q E) : ts { nx := fun _ H' => Q .non H', rt := Q } (L2.start N vs) H := by
  obtain ⟨h0, F, ds, r, hnt, h1, h2, h3, h4, h5, h6⟩ := h
  unfold denE at h4
  cases eg : gs (rho0 N.length ds) with
  | none => rw [eg] at h4; cases h4
  | some oc =>
    rw [eg] at h4
    refine hb F H (L2.start N vs) (rho0 N.length ds) oc (rs_start h0 hnt h1 h2) eg _ ?_
    cases oc with
    | nx ρ' => cases h4; exact fun σ' F' H' s => h5 _ rfl .non F' H' (go_start s) .non
    | rt d ρ' => cases h4; exact fun v σ' F' H' s dv => h5 _ rfl v F' H' (go_start s) dv
    | ro es ρ' =>
      cases h4
      exact fun a ws σ' F' H' s ha fa h' dv => h5 _ rfl (.ref a) (upd F' a (.lst ws)) H' ⟨s.go.fr.trans (Ex.new fa), fun b u hb => by
        by_cases e : b = a
        · subst e; rw [upd_same] at hb; rw [h']; exact hb
        · rw [upd_ne e] at hb; exact s.rs.ex b u hb, (go_start s).keep, fun b k1 k2 k3 => by
        rw [upd_ne (fun e => ha (by rw [← e]; exact k2.th))]
        exact (go_start s).low b k1 k2 k3, s.go.tab, fun h => (s.go.nt h).lst⟩ (.lst upd_same (dv.mono (Ex.new fa)))
    | ex c d ρ' => cases h4; exact fun cls dd σ' F' H' s x => h6 _ _ rfl cls dd F' H' (go_start s) x
    | _ => cases h4
theorem rhoB_own {n i : Nat} {bd : List PyData} {t : Bool} {es : List PyData} (h : (rhoB n bd ds)[i]? = some (.own t es)) : i = 0 ∧ t = true ∧ es = bd := by
  unfold rhoB at h
  cases i with
  | zero => cases h; exact ⟨rfl, rfl, rfl⟩
  | succ i =>
    rw [List.getElem?_cons_succ] at h
    rw [List.getElem?_append] at h
    split at h
    · rw [List.getElem?_map] at h
      cases e : ds[i]? with
      | none => rw [e] at h; cases h
      | some d => rw [e] at h; cases h
    · rw [List.getElem?_replicate] at h
      split at h <;> cases h
theorem rs_startB {a : Addr} {bs : List V} {bd : List PyData} (tb : LamX.Tabs K.T H) (nt : Nt F) (e : Ex F H) (fa : F a = none) (ha : H a = some (.lst bs)) (db : DqAll K F bs bd) (dv : DqAll K F vs ds) : RS K F H (L2.start N (.ref a :: vs)) (rhoB N.length bd ds) := by
  refine ⟨?_, tb, nt, e, fun i d h => ?_, fun i t es h => ?_, fun i j t u ds es b hij h1 h2 => ?_⟩
  · unfold rhoB L2.start
    rw [List.length_cons, List.length_append, List.length_append, List.length_map, List.length_map, List.length_replicate, List.length_replicate, List.length_cons, dv.length]
    omega
  · unfold rhoB at h
    cases i with
    | zero => cases h
    | succ i =>
      rw [List.getElem?_cons_succ, List.getElem?_append] at h
      split at h
      · rename_i hi
        rw [List.length_map] at hi
        rw [List.getElem?_map] at h
        cases ed : ds[i]? with
        | none => rw [ed] at h; cases h
        | some d' =>
          rw [ed] at h
          cases h
          obtain ⟨v, h1, h2⟩ := dv.get ed
          refine ⟨v, ?_, h2⟩
          unfold L2.start
          rw [List.getElem?_append_left (by rw [List.length_map, List.length_cons, dv.length]; omega), List.getElem?_map, List.getElem?_cons_succ, h1]
          rfl
      · rw [List.getElem?_replicate] at h
        split at h <;> cases h
  · obtain ⟨rfl, rfl, rfl⟩ := rhoB_own h
    exact ⟨a, bs, rfl, fa, ha, db⟩
  · exact fun _ _ => hij ((rhoB_own h1).1.trans (rhoB_own h2).1.symm)
theorem body_B (hb : Sd K ec W ts gs) {n : Nat} {Q : VK} {E : XK} (h : spB K n (denB N.length gs) vs H Q E) : ts { nx := fun _ H' => Q .non H', rt := Q } (L2.start N vs) H := by
  obtain ⟨h0, F, a, bs, bd, ws, ds, d, bd', rfl, hnt, h1, h2, h3, h4, h5, h6, h7, h8⟩ := h
  unfold denB at h7
  cases eg : gs (rhoB N.length bd ds) with
  | none => rw [eg] at h7; cases h7
  | some oc =>
    rw [eg] at h7
    have r0 := rs_startB (N := N) h0 hnt h1 h2 h3 h4 h5
    have s0 : ∀ x, Ow (L2.start N (.ref a :: ws)) (rhoB N.length bd ds) x → x = a := fun x ⟨i, t, es, w1, w2⟩ => by
      obtain ⟨rfl, _, _⟩ := rhoB_own w1
      have : (L2.start N (.ref a :: ws))[0]? = some (some (.ref a)) := rfl
      rw [this] at w2
      cases w2
      rfl
    have go : ∀ {σ' : L2.St} {ρ' : Rho} {F' H' : Hp}, Sx K (L2.start N (.ref a :: ws)) (rhoB N.length bd ds) σ' ρ' F H F' H' → Go K.T (· = a) F H F' H' := fun s => ⟨s.go.fr, s.go.ex, fun x o h k n => s.go.keep x o h k fun w => n (s0 x w), fun x h1 h2 n => s.go.low x h1 h2 fun w => n (s0 x w), s.go.tab, s.go.nt⟩
    have box : ∀ {σ' : L2.St} {ρ' : Rho} {F' H' : Hp} {b : List PyData} {r : Rho}, Sx K (L2.start N (.ref a :: ws)) (rhoB N.length bd ds) σ' ρ' F H F' H' → ρ' = .own true b :: r → F' a = none ∧ ∃ bs', H' a = some (.lst bs') ∧ DqAll K F' bs' b := fun {σ' ρ' F' H' b r} s e => by
      subst e
      obtain ⟨x, vs', k1, k2, k3, k4⟩ := s.rs.own 0 true b rfl
      rcases s.sub 0 true b rfl with ⟨es, e1, e2⟩ | ⟨z, _⟩
      · rw [k1] at e2
        have : (L2.start N (.ref a :: ws))[0]? = some (some (.ref a)) := rfl
        rw [this] at e2
        cases e2
        exact ⟨k2, vs', k3, k4⟩
      · cases z
    refine hb F H _ _ oc r0 eg _ ?_
    cases oc with
    | nx ρ' =>
      intro σ' F' H' s
      have h7' : outB (.nx ρ') = some (d, bd') := h7
      unfold outB at h7'
      split at h7'
      · rename_i z; cases z
      · rename_i z; cases z
      · rename_i z
        cases z
        cases h7'
        obtain ⟨k1, bs', k2, k3⟩ := box s rfl
        exact h8 .non F' H' bs' (go s) k1 k2 k3 .non
      · cases h7'
    | rt d0 ρ' =>
      intro v σ' F' H' s dv
      have h7' : outB (.rt d0 ρ') = some (d, bd') := h7
      unfold outB at h7'
      split at h7'
      · rename_i z
        cases z
        cases h7'
        obtain ⟨k1, bs', k2, k3⟩ := box s rfl
        exact h8 v F' H' bs' (go s) k1 k2 k3 dv
      · rename_i z; cases z
      · rename_i z; cases z
      · cases h7'
    | ro es ρ' =>
      intro x xs σ' F' H' s hx fx hx' dx
      have h7' : outB (.ro es ρ') = some (d, bd') := h7
      unfold outB at h7'
      split at h7'
      · rename_i z; cases z
      · rename_i z
        cases z
        cases h7'
        obtain ⟨k1, bs', k2, k3⟩ := box s rfl
        have ne : a ≠ x := fun z => hx (by rw [← z]; exact Th.lst h3)
        exact h8 (.ref x) (upd F' x (.lst xs)) H' bs' ⟨s.go.fr.trans (Ex.new fx), fun b u hb => by
          by_cases e : b = x
          · subst e; rw [upd_same] at hb; rw [hx']; exact hb
          · rw [upd_ne e] at hb; exact s.rs.ex b u hb, (go s).keep, fun b k1 k2 k3 => by
          rw [upd_ne (fun e => hx (by rw [← e]; exact k2.th))]
          exact (go s).low b k1 k2 k3, s.go.tab, fun h => (s.go.nt h).lst⟩ (by rw [upd_ne ne]; exact k1) k2 (k3.mono (Ex.new fx)) (.lst upd_same (dx.mono (Ex.new fx)))
      · rename_i z; cases z
      · cases h7'
    | _ => cases h7
end
end Pd

/-! tuple * int, all ways. -/
namespace L2
open PySem PySem.Spec PyProof.Rows
theorem tuple_mulS (l : Addr) (items : Array Value) (n : Nat) (dd : Option Addr) (sl : Array (Option Value)) (x : Int) (u : Tok) (c0 : (decide (x < -(2 ^ 63)) || decide (x ≥ 2 ^ 63)) = false) (c1 : (items.isEmpty || x == 1) = true) :
    Meets (Builtin.«tuple.__mul__» ⟨[.ref l, .int x u], []⟩) (fun _ R s => s.heap.get? l = some { cls := .type "tuple", dict := dd, data := .seq items n, slots := sl } ∧ R (.ok (.ret (Value.ref l))) s) :=
  .of_wp fun prog w A R s h => by
    obtain ⟨hp, g, d, tk, os⟩ := s
    obtain ⟨hl, h⟩ := h
    have f1 := AutoSeq1.idx_int
    wp_walk using wpAny_loadPart' hl
    repeat (first
      | (refine wpAny_ite_false (decide_eq_false (by rw [c0]; exact Bool.false_ne_true)) ?_; wp_walk using wpAny_loadPart' hl)
      | (refine wpAny_ite_true (decide_eq_true c1) ?_; wp_walk using wpAny_loadPart' hl))
    first
      | exact ⟨_, rfl, h⟩
      | trace_state
theorem tuple_mulZ (l : Addr) (items : Array Value) (n : Nat) (dd : Option Addr) (sl : Array (Option Value)) (x : Int) (u : Tok) (c0 : (decide (x < -(2 ^ 63)) || decide (x ≥ 2 ^ 63)) = false) (c1 : (items.isEmpty || x == 1) = false) (c2 : (decide (x ≤ 0) || items.isEmpty) = true) :
    Meets (Builtin.«tuple.__mul__» ⟨[.ref l, .int x u], []⟩) (fun _ R s => s.heap.get? l = some { cls := .type "tuple", dict := dd, data := .seq items n, slots := sl } ∧ R (.ok (.ret (Value.ref s.heap.objs.size))) { s with heap := s.heap.push { cls := Value.type "tuple", data := Data.seq #[] }, toks := s.toks }) :=
  .of_wp fun prog w A R s h => by
    obtain ⟨hp, g, d, tk, os⟩ := s
    obtain ⟨hl, h⟩ := h
    have f1 := AutoSeq1.idx_int
    wp_walk using wpAny_loadPart' hl
    repeat (first
      | (refine wpAny_ite_false (decide_eq_false (by rw [c0]; exact Bool.false_ne_true)) ?_; wp_walk using wpAny_loadPart' hl)
      | (refine wpAny_ite_false (decide_eq_false (by rw [c1]; exact Bool.false_ne_true)) ?_; wp_walk using wpAny_loadPart' hl)
      | (refine wpAny_ite_true (decide_eq_true c2) ?_; wp_walk using wpAny_loadPart' hl))
    first
      | exact ⟨_, rfl, h⟩
      | trace_state
def rRepTA (K : PySem.W.Frag) : R2 := fun x y H Q => ∃ l k xs, x = .ref l ∧ y = .int k ∧ SqT K H l xs ∧ -1000000 ≤ k ∧ k ≤ 1000 ∧ xs.length ≤ 1000 ∧ ((xs = [] ∨ k = 1) → Q (.ref l) H) ∧ (xs ≠ [] → k ≤ 0 → ∀ p, H p = none → Q (.ref p) (upd H p (.tup []))) ∧ (xs ≠ [] → 2 ≤ k → ∀ p, H p = none → Q (.ref p) (upd H p (.tup (List.replicate k.toNat xs).flatten)))
section
variable {X : Cx}
theorem op_repTA : OpR X (binaryOp .Mult) (rRepTA X.K) := by
  intro pins s σ H x y v u Q I rx ry h
  obtain ⟨l, k, xs, rfl, rfl, hT, h1, h2, hz, q1, q2, q3⟩ := h
  by_cases hbig : xs ≠ [] ∧ 2 ≤ k
  · exact op_repT pins s σ H (.ref l) (.int k) v u Q I rx ry ⟨l, k, xs, rfl, rfl, hT, hbig.1, hbig.2, h2, hz, q3 hbig.1 hbig.2⟩
  cases rx
  obtain ⟨t, rfl⟩ := ry
  obtain ⟨its, r, ⟨⟨cls, dd, data, sl⟩, ho, hc, n, hd⟩, hs⟩ := I.tuple hT
  simp only at hc hd
  subst hc hd
  have hle : its.length = xs.length := r.length.symm
  have c0 : (decide (k < -(2 ^ 63)) || decide (k ≥ 2 ^ 63)) = false := by
    rw [decide_eq_false (by omega), decide_eq_false (by omega)] <;> rfl
  by_cases hsame : xs = [] ∨ k = 1
  · have c1 : (its.toArray.isEmpty || k == 1) = true := by
      rcases hsame with e | e
      · subst e
        have : its = [] := List.eq_nil_of_length_eq_zero hle
        subst this
        rfl
      · subst e
        simp
    exact wpAny_binaryOp_repeat_ref (T := "tuple") (U := "int") (by decide) ⟨_, ho, rfl⟩ (fun s' => typeIs_int s' k t) noFill_tuple_mul F.fills_int_mul F.slot_int_rmul repeat_tuple F.slot_int_index.lookup
      (call_meets F.slot_int_rmul (typeIs_int s k t) F.entry_int_rmul (F.args_int_rmul_2 _ _) (int_rmul_tuple k t l its.toArray n dd sl)
        ⟨ho, rfl, ⟨_, ho, rfl⟩, call_meets F.slot_tuple_mul ⟨_, ho, rfl⟩ F.entry_tuple_mul (F.args_tuple_mul_2 _ _) (tuple_mulS l its.toArray n dd sl k t c0 c1) ⟨ho, ⟨.ref l, H, I, rfl, q1 hsame⟩⟩⟩)
  · have hne : xs ≠ [] := fun e => hsame (.inl e)
    have hk0 : k ≤ 0 := by
      have e2 : ¬ 2 ≤ k := fun z => hbig ⟨hne, z⟩
      have e3 : k ≠ 1 := fun z => hsame (.inr z)
      omega
    have hi : its.toArray.isEmpty = false := by
      cases its with
      | nil =>
        rw [List.length_nil] at hle
        exact absurd (List.eq_nil_of_length_eq_zero hle.symm) hne
      | cons a b => rfl
    have c1 : (its.toArray.isEmpty || k == 1) = false := by
      rw [hi, Bool.false_or]
      exact beq_eq_false_iff_ne.mpr (by omega)
    have c2 : (decide (k ≤ 0) || its.toArray.isEmpty) = true := by
      rw [decide_eq_true hk0]
      rfl
    refine wpAny_binaryOp_repeat_ref (T := "tuple") (U := "int") (by decide) ⟨_, ho, rfl⟩ (fun s' => typeIs_int s' k t) noFill_tuple_mul F.fills_int_mul F.slot_int_rmul repeat_tuple F.slot_int_index.lookup
      (call_meets F.slot_int_rmul (typeIs_int s k t) F.entry_int_rmul (F.args_int_rmul_2 _ _) (int_rmul_tuple k t l its.toArray n dd sl)
        ⟨ho, rfl, ⟨_, ho, rfl⟩, call_meets F.slot_tuple_mul ⟨_, ho, rfl⟩ F.entry_tuple_mul (F.args_tuple_mul_2 _ _) (tuple_mulZ l its.toArray n dd sl k t c0 c1 c2) ⟨ho, ?_⟩⟩)
    refine ⟨.ref s.heap.objs.size, _, I.laid (t' := s.toks) (o := .tup []) (fun b ob q => Heap.get?_push_of_some _ q) (Nat.le_refl _) ?_, rfl, q2 hne hk0 _ (I.hok.fresh (Nat.le_refl _))⟩
    exact ⟨Nat.zero_le _, [], .nil, IsTup.new _ _⟩
end
end L2

namespace Pd
open PySem L2 Evl
/-! ### operations over data, one for each word -/
section
variable {X : Cx} {f : Value → Value → Sem Value}
def rAddStr : R2 := fun x y H Q => ∃ i j : Str, x = .str i ∧ y = .str j ∧ i.length + j.length ≤ sizeLine ∧ Q (.str (i ++ j)) H
def rAddP (K : PySem.W.Frag) : R2 := fun x y H Q => rI0 (fun i j => .int (i + j)) x y H Q ∨ rCat x y H Q ∨ rCatA K x y H Q ∨ rAddStr x y H Q
theorem op_addP : OpR X (binaryOp .Add) (rAddP X.K) := OpR.or op_add (OpR.or op_cat (OpR.or op_catA op_add_str))
def rMulP (K : PySem.W.Frag) : R2 := fun x y H Q => rI CMulW (fun i j => .int (i * j)) x y H Q ∨ rRep x y H Q ∨ rRepTA K x y H Q
theorem op_mulP : OpR X (binaryOp .Mult) (rMulP X.K) := OpR.or op_mulW (OpR.or op_rep op_repTA)
def rInT (K : PySem.W.Frag) : R2 := fun x y H Q => ∃ d ds, Dp K H x d ∧ Dp K H y (.tuple ds) ∧ SeqAt.shaped d = true ∧ SeqAt.shaped (.tuple ds) = true ∧ Q (.bl (ds.any fun z => z.eqv d)) H
def rNotInT (K : PySem.W.Frag) : R2 := fun x y H Q => ∃ d ds, Dp K H x d ∧ Dp K H y (.tuple ds) ∧ SeqAt.shaped d = true ∧ SeqAt.shaped (.tuple ds) = true ∧ Q (.bl (!ds.any fun z => z.eqv d)) H
theorem op_inT (hu : X.A.units + 65 < cLine) : OpR X (compareOp .In) (rInT X.K) := fun pins s σ H x y v u Q I rx ry h => by
  obtain ⟨d, ds, dx, dy, sx, sy, q⟩ := h
  obtain ⟨as, ra⟩ := Dp.reads I d x v dx rx
  obtain ⟨bs, rb⟩ := Dp.reads I (.tuple ds) y u dy ry
  exact SeqAt.in_tuple_reads rb ra (SeqAt.canLay_of_shaped sy) (SeqAt.canLay_of_shaped sx) (PyProof.Rows.room_in_shaped sx hu) ⟨.bl _, H, I, rfl, q⟩
theorem op_notInT (hu : X.A.units + 65 < cLine) : OpR X (compareOp .NotIn) (rNotInT X.K) := fun pins s σ H x y v u Q I rx ry h => by
  obtain ⟨d, ds, dx, dy, sx, sy, q⟩ := h
  obtain ⟨as, ra⟩ := Dp.reads I d x v dx rx
  obtain ⟨bs, rb⟩ := Dp.reads I (.tuple ds) y u dy ry
  exact SeqAt.notIn_tuple_reads rb ra (SeqAt.canLay_of_shaped sy) (SeqAt.canLay_of_shaped sx) (PyProof.Rows.room_in_shaped sx hu) ⟨.bl _, H, I, rfl, q⟩
def rInP (K : PySem.W.Frag) : R2 := fun x y H Q => rIn K false x y H Q ∨ rInD K x y H Q ∨ rInT K x y H Q
theorem op_inP (hu : X.A.units + 65 < cLine) : OpR X (compareOp .In) (rInP X.K) := OpR.or op_in_seq (OpR.or (op_inD hu) (op_inT hu))
def rNotInP (K : PySem.W.Frag) : R2 := fun x y H Q => rIn K true x y H Q ∨ rNotInD K x y H Q ∨ rNotInT K x y H Q
theorem op_notInP (hu : X.A.units + 65 < cLine) : OpR X (compareOp .NotIn) (rNotInP X.K) := OpR.or op_notIn_seq (OpR.or (op_notInD hu) (op_notInT hu))
def rIxP (K : PySem.W.Frag) : R2 := fun x y H Q => rIxL K x y H Q ∨ rIxT K x y H Q
theorem ix_P : IxR X (rIxP X.K) := IxR.or ix_list ix_tup
def rSlP (K : PySem.W.Frag) : V → Option Int → Option Int → Hp → VK → Prop := fun x lo hi H Q => rSlL K x lo hi H Q ∨ rSlA K x lo hi H Q
theorem sl_P : SlR X (rSlP X.K) := SlR.or sl_list sl_tupA
end
abbrev Op := PyData → PyData → Option PyData
def addP : Op := fun a b => match a, b with
  | .int i, .int j => some (.int (i + j))
  | .list x, .list y => if x.length + y.length ≤ 100000 then some (.list (x ++ y)) else none
  | .tuple x, .tuple y => if x.length + y.length ≤ 100000 then some (.tuple (x ++ y)) else none
  | .str x, .str y => if x.length + y.length ≤ 100000 then some (.str (x ++ y)) else none
  | _, _ => none
def mulP : Op := fun a b => match a, b with
  | .int i, .int j => if i.natAbs.log2 + j.natAbs.log2 < 1000000 then some (.int (i * j)) else none
  | .list x, .int k => if -1000000 < k ∧ k < 1000000 ∧ x.length * k.toNat ≤ 100000 then some (.list (List.replicate k.toNat x).flatten) else none
  | .tuple x, .int k => if -1000000 ≤ k ∧ k ≤ 1000 ∧ x.length ≤ 1000 then some (.tuple (List.replicate k.toNat x).flatten) else none
  | _, _ => none
def i2 (c : Int → Int → Bool) (g : Int → Int → Int) : Op := fun a b => match a, b with
  | .int i, .int j => if c i j = true then some (.int (g i j)) else none
  | _, _ => none
def subP : Op := i2 (fun _ _ => true) (· - ·)
def divP : Op := i2 (fun _ j => decide (0 < j) && decide (j.natAbs.log2 < 9000)) (· / ·)
def modP : Op := i2 (fun _ j => decide (0 < j)) (· % ·)
def powP : Op := i2 (fun i j => decide (0 ≤ j) && decide (j ≤ 1000000) && decide (i.natAbs < 2 ^ 64)) (fun i j => i ^ j.toNat)
def shlP : Op := i2 (fun i j => decide (0 ≤ j) && decide (j ≤ 1000000) && decide (i.natAbs < 2 ^ 64)) (fun i j => i * 2 ^ j.toNat)
def shrP : Op := i2 (fun _ j => decide (0 ≤ j)) (fun i j => i / 2 ^ j.toNat)
def andP : Op := i2 (fun _ _ => true) Builtin.bitAnd
def b2 (g : Int → Int → Bool) : Op := fun a b => match a, b with
  | .int i, .int j => some (.bool (g i j))
  | _, _ => none
def ltP : Op := b2 fun i j => decide (i < j)
def leP : Op := b2 fun i j => decide (i ≤ j)
def gtP : Op := b2 fun i j => decide (j < i)
def geP : Op := b2 fun i j => decide (j ≤ i)
def eqP : Op := fun a b => if SeqAt.shaped a = true ∧ SeqAt.shaped b = true then some (.bool (a.eqv b)) else none
def neP : Op := fun a b => if SeqAt.shaped a = true ∧ SeqAt.shaped b = true then some (.bool (!a.eqv b)) else none
def isNoneP (a : PyData) : Bool := match a with | .none => true | _ => false
def isP : Op := fun a b => match b with | .none => some (.bool (isNoneP a)) | _ => none
def isNotP : Op := fun a b => match b with | .none => some (.bool (!isNoneP a)) | _ => none
def flatD : PyData → Bool
  | .none => true
  | .bool _ => true
  | .int _ => true
  | .str _ => true
  | _ => false
def inP : Op := fun a b => match b with
  | .list ds => if SeqAt.shaped a = true ∧ SeqAt.shaped (.list ds) = true then some (.bool (ds.any fun z => z.eqv a)) else none
  | .tuple ds => if (flatD a = true ∧ ds.all flatD = true) ∨ (SeqAt.shaped a = true ∧ SeqAt.shaped (.tuple ds) = true) then some (.bool (ds.any fun z => z.eqv a)) else none
  | _ => none
def notInP : Op := fun a b => match b with
  | .list ds => if SeqAt.shaped a = true ∧ SeqAt.shaped (.list ds) = true then some (.bool (!ds.any fun z => z.eqv a)) else none
  | .tuple ds => if (flatD a = true ∧ ds.all flatD = true) ∨ (SeqAt.shaped a = true ∧ SeqAt.shaped (.tuple ds) = true) then some (.bool (!ds.any fun z => z.eqv a)) else none
  | _ => none
def ixP : Op := fun a b => match a, b with
  | .list ds, .int i => (at? ds.length i).bind fun j => ds[j]?
  | .dict [(.none, .list ds)], .int i => (at? ds.length i).bind fun j => ds[j]?
  | .tuple ds, .int i => (at? ds.length i).bind fun j => ds[j]?
  | _, _ => none
section
variable {K : PKt} {F H : Hp} {v w : V} {vs : List V} {a : PyData} {ds : List PyData}
theorem Dq.flat (h : Dq K F v a) (e : flatD a = true) : flatV v = true := by
  cases h with
  | lst _ _ => cases e
  | tup _ _ => cases e
  | scr _ _ => cases e
  | lam _ _ _ => cases e
  | _ => rfl
theorem DqAll.flat : ∀ {vs : List V} {ds : List PyData}, DqAll K F vs ds → ds.all flatD = true → vs.all flatV = true
  | _, _, .nil, _ => rfl
  | _, _, .cons h t, e => by
    rw [List.all_cons, Bool.and_eq_true] at e ⊢
    exact ⟨h.flat e.1, DqAll.flat t e.2⟩
theorem Dq.eqV {b : PyData} (h : Dq K F v a) (g : Dq K F w b) (ea : flatD a = true) (eb : flatD b = true) : eqV v w = a.eqv b := by
  cases h <;> cases g <;> first | rfl | cases ea | cases eb
theorem DqAll.inVd (h : Dq K F v a) (ea : flatD a = true) : ∀ {vs : List V} {ds : List PyData}, DqAll K F vs ds → ds.all flatD = true → L2.inV v vs = ds.any fun z => z.eqv a
  | _, _, .nil, _ => rfl
  | _, _, .cons g t, e => by
    rw [List.all_cons, Bool.and_eq_true] at e
    show (eqV _ v || L2.inV v _) = _
    rw [List.any_cons, DqAll.inVd h ea t e.2, Dq.eqV g h e.1 ea]
theorem opd_add : OpD K (rAddP K) addP := by
  intro F H v w a b d ex dv dw e Q q1 q2
  unfold addP at e
  split at e
  · cases e
    cases dv; cases dw
    exact .inl ⟨_, _, rfl, rfl, q1 _ (.int _)⟩
  · split at e
    · rename_i hz
      cases e
      cases dv with
      | lst ha hs =>
        cases dw with
        | lst hb ht => exact .inr (.inl ⟨_, _, _, _, rfl, rfl, ex _ _ ha, ex _ _ hb, by rw [hs.length, ht.length]; exact sz_of hz, fun p hp => q2 p _ (fun ps z => by cases z) hp (.lst upd_same ((hs.append ht).mono (Ex.new (fresh_back ex hp))))⟩)
    · cases e
  · split at e
    · rename_i hz
      cases e
      cases dv with
      | tup ha hs =>
        cases dw with
        | tup hb ht =>
          refine .inr (.inr (.inl ⟨_, _, _, _, rfl, rfl, TupZ.sq ha (ex), TupZ.sq hb (ex), by rw [hs.length, ht.length]; exact sz_of hz, fun z => ?_, fun z1 z2 => ?_, fun _ _ p hp => q2 p _ (fun ps z => by cases z) hp (.tup (.inl upd_same) ((hs.append ht).mono (Ex.new (fresh_back ex hp))))⟩))
          · subst z; cases hs; exact q1 _ (.tup hb ht)
          · subst z2; cases ht; rw [List.append_nil] at q1; exact q1 _ (.tup ha hs)
    · cases e
  · split at e
    · rename_i hz
      cases e
      cases dv; cases dw
      exact .inr (.inr (.inr ⟨_, _, rfl, rfl, sz_of hz, q1 _ (.str _)⟩))
    · cases e
  · cases e
theorem opd_mul : OpD K (rMulP K) mulP := by
  intro F H v w a b d ex dv dw e Q q1 q2
  unfold mulP at e
  split at e
  · split at e
    · rename_i hz
      cases e
      cases dv; cases dw
      exact .inl ⟨_, _, rfl, rfl, hz, q1 _ (.int _)⟩
    · cases e
  · split at e
    · rename_i hz
      cases e
      cases dw
      cases dv with
      | lst ha hs => exact .inr (.inl ⟨_, _, _, rfl, rfl, ex _ _ ha, by omega, by omega, by rw [hs.length]; exact sz_of hz.2.2, fun p hp => q2 p _ (fun ps z => by cases z) hp (.lst upd_same ((hs.rep _).mono (Ex.new (fresh_back ex hp))))⟩)
    · cases e
  · split at e
    · rename_i hz
      cases e
      cases dw
      cases dv with
      | tup ha hs =>
        rename_i x k _ _
        refine .inr (.inr ⟨_, _, _, rfl, rfl, TupZ.sq ha (ex), hz.1, hz.2.1, by rw [hs.length]; exact hz.2.2, fun z => ?_, fun _ z p hp => ?_, fun _ _ p hp => q2 p _ (fun ps z => by cases z) hp (.tup (.inl upd_same) ((hs.rep _).mono (Ex.new (fresh_back ex hp))))⟩)
        · rcases z with z | z
          · subst z
            cases hs
            have e0 : (List.replicate k.toNat ([] : List PyData)).flatten = [] := by simp
            rw [e0] at q1
            exact q1 _ (.tup ha .nil)
          · subst z
            have e0 : (List.replicate (1 : Int).toNat x).flatten = x := by simp
            rw [e0] at q1
            exact q1 _ (.tup ha hs)
        · have e0 : (List.replicate k.toNat x).flatten = [] := by
            have : k.toNat = 0 := by omega
            rw [this]
            rfl
          rw [e0] at q2
          exact q2 p _ (fun ps z => by cases z) hp (.tup (.inl upd_same) .nil)
    · cases e
  · cases e
theorem opd_i2 {C : Int → Int → Prop} {c : Int → Int → Bool} {g : Int → Int → Int} (h : ∀ i j, c i j = true → C i j) : OpD K (rI C fun i j => .int (g i j)) (i2 c g) := by
  intro F H v w a b d ex dv dw e Q q1 q2
  unfold i2 at e
  split at e
  · split at e
    · rename_i hz
      cases e
      cases dv; cases dw
      exact ⟨_, _, rfl, rfl, h _ _ hz, q1 _ (.int _)⟩
    · cases e
  · cases e
theorem opd_i0 {g : Int → Int → Int} : OpD K (rI0 fun i j => .int (g i j)) (i2 (fun _ _ => true) g) := by
  intro F H v w a b d ex dv dw e Q q1 q2
  unfold i2 at e
  split at e
  · split at e
    · cases e
      cases dv; cases dw
      exact ⟨_, _, rfl, rfl, q1 _ (.int _)⟩
    · cases e
  · cases e
theorem opd_b0 {g : Int → Int → Bool} : OpD K (rI0 fun i j => .bl (g i j)) (b2 g) := by
  intro F H v w a b d ex dv dw e Q q1 q2
  unfold b2 at e
  split at e
  · cases e
    cases dv; cases dw
    exact ⟨_, _, rfl, rfl, q1 _ (.bl _)⟩
  · cases e
theorem opd_sub : OpD K (rI0 fun i j => .int (i - j)) subP := opd_i0
theorem opd_and : OpD K (rI0 fun i j => .int (Builtin.bitAnd i j)) andP := opd_i0
theorem opd_div : OpD K (rI CDivW fun i j => .int (i / j)) divP := opd_i2 fun i j h => by
  rw [Bool.and_eq_true] at h
  exact ⟨of_decide_eq_true h.1, of_decide_eq_true h.2⟩
theorem opd_mod : OpD K (rI (fun _ j => 0 < j) fun i j => .int (i % j)) modP := opd_i2 fun i j h => of_decide_eq_true h
theorem opd_shr : OpD K (rI (fun _ j => 0 ≤ j) fun i j => .int (i / 2 ^ j.toNat)) shrP := opd_i2 fun i j h => of_decide_eq_true h
theorem opd_pow : OpD K (rI CPow fun i j => .int (i ^ j.toNat)) powP := opd_i2 fun i j h => by
  rw [Bool.and_eq_true, Bool.and_eq_true] at h
  exact ⟨of_decide_eq_true h.1.1, of_decide_eq_true h.1.2, of_decide_eq_true h.2⟩
theorem opd_shl : OpD K (rI CPow fun i j => .int (i * 2 ^ j.toNat)) shlP := opd_i2 fun i j h => by
  rw [Bool.and_eq_true, Bool.and_eq_true] at h
  exact ⟨of_decide_eq_true h.1.1, of_decide_eq_true h.1.2, of_decide_eq_true h.2⟩
theorem opd_lt : OpD K (rI0 fun i j => .bl (decide (i < j))) ltP := opd_b0
theorem opd_le : OpD K (rI0 fun i j => .bl (decide (i ≤ j))) leP := opd_b0
theorem opd_gt : OpD K (rI0 fun i j => .bl (decide (j < i))) gtP := opd_b0
theorem opd_ge : OpD K (rI0 fun i j => .bl (decide (j ≤ i))) geP := opd_b0
theorem opd_eq : OpD K (rEqD K) eqP := by
  intro F H v w a b d ex dv dw e Q q1 q2
  unfold eqP at e
  split at e
  · rename_i hz
    cases e
    exact ⟨a, b, (dv.mono ex).dpS hz.1, (dw.mono ex).dpS hz.2, hz.1, hz.2, q1 _ (.bl _)⟩
  · cases e
theorem opd_ne : OpD K (rNeD K) neP := by
  intro F H v w a b d ex dv dw e Q q1 q2
  unfold neP at e
  split at e
  · rename_i hz
    cases e
    exact ⟨a, b, (dv.mono ex).dpS hz.1, (dw.mono ex).dpS hz.2, hz.1, hz.2, q1 _ (.bl _)⟩
  · cases e
theorem Dq.isNone (h : Dq K F v a) : decide (v = V.non) = isNoneP a := by cases h <;> rfl
theorem opd_is : OpD K (fun x y H Q => y = V.non ∧ Q (V.bl (decide (x = V.non))) H) isP := by
  intro F H v w a b d ex dv dw e Q q1 q2
  cases dw with
  | non => cases e; exact ⟨rfl, by rw [dv.isNone]; exact q1 _ (.bl _)⟩
  | _ => cases e
theorem opd_isNot : OpD K (fun x y H Q => y = V.non ∧ Q (V.bl (!decide (x = V.non))) H) isNotP := by
  intro F H v w a b d ex dv dw e Q q1 q2
  cases dw with
  | non => cases e; exact ⟨rfl, by rw [dv.isNone]; exact q1 _ (.bl _)⟩
  | _ => cases e
theorem opd_in : OpD K (rInP K) inP := by
  intro F H v w a b d ex dv dw e Q q1 q2
  unfold inP at e
  split at e
  · split at e
    · rename_i hz
      cases e
      exact .inr (.inl ⟨a, _, (dv.mono ex).dpS hz.1, (dw.mono ex).dpS hz.2, hz.1, hz.2, q1 _ (.bl _)⟩)
    · cases e
  · split at e
    · rename_i hz
      cases e
      rcases hz with hz | hz
      · cases dw with
        | tup ha hs =>
          refine .inl ⟨_, _, rfl, .inr (TupZ.sq ha (ex)), dv.flat hz.1, hs.flat hz.2, ?_⟩
          rw [DqAll.inVd dv hz.1 hs hz.2]
          exact q1 _ (.bl _)
      · exact .inr (.inr ⟨a, _, (dv.mono ex).dpS hz.1, (dw.mono ex).dpS hz.2, hz.1, hz.2, q1 _ (.bl _)⟩)
    · cases e
  · cases e
theorem opd_notIn : OpD K (rNotInP K) notInP := by
  intro F H v w a b d ex dv dw e Q q1 q2
  unfold notInP at e
  split at e
  · split at e
    · rename_i hz
      cases e
      exact .inr (.inl ⟨a, _, (dv.mono ex).dpS hz.1, (dw.mono ex).dpS hz.2, hz.1, hz.2, q1 _ (.bl _)⟩)
    · cases e
  · split at e
    · rename_i hz
      cases e
      rcases hz with hz | hz
      · cases dw with
        | tup ha hs =>
          refine .inl ⟨_, _, rfl, .inr (TupZ.sq ha (ex)), dv.flat hz.1, hs.flat hz.2, ?_⟩
          rw [DqAll.inVd dv hz.1 hs hz.2]
          exact q1 _ (.bl _)
      · exact .inr (.inr ⟨a, _, (dv.mono ex).dpS hz.1, (dw.mono ex).dpS hz.2, hz.1, hz.2, q1 _ (.bl _)⟩)
    · cases e
  · cases e
theorem at_of {d : PyData} {i : Int} (hs : DqAll K F vs ds) (e : ((at? ds.length i).bind fun j => ds[j]?) = some d) : ∃ v, atI vs i = some v ∧ Dq K F v d := by
  have : at? ds.length i = ixN vs.length i := by rw [hs.length]; rfl
  unfold atI
  rw [← this]
  cases ea : at? ds.length i with
  | none => rw [ea] at e; cases e
  | some j =>
    rw [ea] at e
    obtain ⟨v, h1, h2⟩ := hs.get e
    exact ⟨v, h1, h2⟩
theorem opd_ix : OpD K (rIxP K) ixP := by
  intro F H v w a b d ex dv dw e Q q1 q2
  unfold ixP at e
  split at e
  · cases dw
    cases dv with
    | lst ha hs =>
      obtain ⟨u, h1, h2⟩ := at_of hs e
      exact .inl ⟨_, _, _, u, rfl, rfl, SqL.of (ex _ _ ha), h1, q1 _ h2⟩
  · cases dw
    cases dv with
    | scr ha hs =>
      obtain ⟨u, h1, h2⟩ := at_of hs e
      exact .inl ⟨_, _, _, u, rfl, rfl, ha.sq ex, h1, q1 _ h2⟩
  · cases dw
    cases dv with
    | tup ha hs =>
      obtain ⟨u, h1, h2⟩ := at_of hs e
      exact .inr ⟨_, _, _, u, rfl, rfl, TupZ.sq ha (ex), h1, q1 _ h2⟩
  · cases e
/-! one-place -/
def negP : PyData → Option PyData | .int i => some (.int (-i)) | _ => none
theorem und_neg : UnD K (rU fun i => .int (-i)) negP := by
  intro F H v a d ex dv e Q q1 q2
  cases dv with
  | int i => cases e; exact ⟨i, rfl, q1 _ (.int _)⟩
  | _ => cases e
/-! built-ins -/
def lenP : List PyData → Option PyData
  | [.list ds] => some (.int ds.length)
  | [.dict [(.none, .list ds)]] => some (.int ds.length)
  | [.tuple ds] => some (.int ds.length)
  | _ => none
theorem one_of {vs : List V} {d : PyData} (h : DqAll K F vs [d]) : ∃ v, vs = [v] ∧ Dq K F v d := by
  cases h with
  | cons a b => cases b; exact ⟨_, rfl, a⟩
theorem cad_len : CaD K (fun xs H Q => ∃ p ys, xs = [V.ref p] ∧ (SqL K H p ys ∨ SqT K H p ys) ∧ Q (V.int (ys.length : Nat)) H) lenP := by
  intro F H vs as d ex dv e Q q1 q2
  unfold lenP at e
  split at e
  · cases e
    obtain ⟨v, rfl, dx⟩ := one_of dv
    cases dx with
    | lst ha hs => exact ⟨_, _, rfl, .inl (SqL.of (ex _ _ ha)), by rw [hs.length]; exact q1 _ (.int _)⟩
  · cases e
    obtain ⟨v, rfl, dx⟩ := one_of dv
    cases dx with
    | scr ha hs => exact ⟨_, _, rfl, .inl (ha.sq ex), by rw [hs.length]; exact q1 _ (.int _)⟩
  · cases e
    obtain ⟨v, rfl, dx⟩ := one_of dv
    cases dx with
    | tup ha hs => exact ⟨_, _, rfl, .inr (TupZ.sq ha (ex)), by rw [hs.length]; exact q1 _ (.int _)⟩
  · cases e
def absP : List PyData → Option PyData | [.int i] => some (.int (if i < 0 then -i else i)) | _ => none
theorem cad_abs : CaD K (fun xs H Q => ∃ i, xs = [V.int i] ∧ Q (V.int (if i < 0 then -i else i)) H) absP := by
  intro F H vs as d ex dv e Q q1 q2
  unfold absP at e
  split at e
  · cases e
    obtain ⟨v, rfl, dx⟩ := one_of dv
    cases dx
    exact ⟨_, rfl, q1 _ (.int _)⟩
  · cases e
def intP : List PyData → Option PyData | [.int i] => some (.int i) | [.bool b] => some (.int (if b = true then 1 else 0)) | _ => none
theorem cad_int : CaD K (fun xs H Q => (∃ i, xs = [V.int i] ∧ Q (V.int i) H) ∨ ∃ k, xs = [V.bl k] ∧ Q (V.int (if k = true then 1 else 0)) H) intP := by
  intro F H vs as d ex dv e Q q1 q2
  unfold intP at e
  split at e
  · cases e
    obtain ⟨v, rfl, dx⟩ := one_of dv
    cases dx
    exact .inl ⟨_, rfl, q1 _ (.int _)⟩
  · cases e
    obtain ⟨v, rfl, dx⟩ := one_of dv
    cases dx
    exact .inr ⟨_, rfl, q1 _ (.int _)⟩
  · cases e
def tupleP : List PyData → Option PyData | [.list ds] => some (.tuple ds) | [.tuple ds] => some (.tuple ds) | _ => none
theorem cad_tuple : CaD K (fun xs H Q => ∃ p ys, xs = [V.ref p] ∧ ((SqL K H p ys ∧ ∀ (l : Addr), H l = none → Q (V.ref l) (upd H l (HO.tup ys))) ∨ SqT K H p ys ∧ Q (V.ref p) H)) tupleP := by
  intro F H vs as d ex dv e Q q1 q2
  unfold tupleP at e
  split at e
  · cases e
    obtain ⟨v, rfl, dx⟩ := one_of dv
    cases dx with
    | lst ha hs => exact ⟨_, _, rfl, .inl ⟨SqL.of (ex _ _ ha), fun p hp => q2 p _ (fun ps z => by cases z) hp (.tup (.inl upd_same) (hs.mono (Ex.new (fresh_back ex hp))))⟩⟩
  · cases e
    obtain ⟨v, rfl, dx⟩ := one_of dv
    cases dx with
    | tup ha hs => exact ⟨_, _, rfl, .inr ⟨TupZ.sq ha (ex), q1 _ (.tup ha hs)⟩⟩
  · cases e
def listP : List PyData → Option PyData | [.list ds] => some (.list ds) | [.tuple ds] => some (.list ds) | _ => none
theorem cad_list : CaD K (fun xs H Q => ∃ p ys, xs = [V.ref p] ∧ (SqL K H p ys ∨ SqT K H p ys) ∧ ∀ (l : Addr), H l = none → Q (V.ref l) (upd H l (HO.lst ys))) listP := by
  intro F H vs as d ex dv e Q q1 q2
  unfold listP at e
  split at e
  · cases e
    obtain ⟨v, rfl, dx⟩ := one_of dv
    cases dx with
    | lst ha hs => exact ⟨_, _, rfl, .inl (SqL.of (ex _ _ ha)), fun p hp => q2 p _ (fun ps z => by cases z) hp (.lst upd_same (hs.mono (Ex.new (fresh_back ex hp))))⟩
  · cases e
    obtain ⟨v, rfl, dx⟩ := one_of dv
    cases dx with
    | tup ha hs => exact ⟨_, _, rfl, .inr (TupZ.sq ha (ex)), fun p hp => q2 p _ (fun ps z => by cases z) hp (.lst upd_same (hs.mono (Ex.new (fresh_back ex hp))))⟩
  · cases e
end
end Pd

namespace Pd
open PySem L2 Evl
/-! ### isinstance -/
/-- the type's name -/
def tyD : PyData → String
  | .none => "NoneType"
  | .bool _ => "bool"
  | .int _ => "int"
  | .str _ => "str"
  | .list _ => "list"
  | .tuple _ => "tuple"
  | .dict _ => "dict"
/-- of so many built-in types -/
def isiD (ts : List String) (d : PyData) : Bool := ts.any fun t => match tyD d, t with
  | "bool", "int" => true
  | a, b => a == b
def noDict : PyData → Bool | .dict _ => false | _ => true
theorem noDict_of {d : PyData} (h : noDict d = true) : ∀ x, d ≠ .dict x := fun x z => by subst z; cases h
def isi1M (t : String) (f : DE) : DE := fun ρ => bnd (f ρ) fun d ρ1 => if noDict d = true then (kitB (tyD d) t).map fun b => .ok (.bool b) ρ1 else none
section
variable {K : PKt} {ec : EC} {W : WX} {te ta tb tc : TE} {tl : TA} {f g h : DE} {fl : DL} {F H : Hp} {v : V} {a : PyData} {σ : L2.St} {ρ : Rho}
theorem Dq.ty (ex : Ex F H) (h : Dq K F v a) (nd : ∀ x, a ≠ .dict x) : TyX K.K H v (.type (tyD a)) := by
  cases h with
  | non => exact .base .non
  | bl b => exact .base (.bl b)
  | int i => exact .base (.int i)
  | str x => exact .base (.str x)
  | lst ha hs => exact .base (.lst (ex _ _ ha))
  | tup ha hs =>
    rcases ha with ha | ⟨o, its, n, h1, h2, _⟩
    · exact .base (.tup (ex _ _ ha))
    · exact .kTuple h1 h2
  | scr _ _ => exact absurd rfl (nd _)
  | lam _ _ _ => exact absurd rfl (nd _)
theorem ed_isi1 {t : String} (he : Ed K ec W te f) : Ed K ec W (tCB (rIsi K) (tCons te (tCons (tC (.ty t)) tNil))) (isi1M t f) := by
  intro F H σ ρ o rs e Q q hf
  refine he.go rs e hf fun d ρ1 v F1 H1 n1 dv e1 hf1 => ?_
  split at e1
  · rename_i nd
    cases ek : kitB (tyD d) t with
    | none => rw [ek] at e1; cases e1
    | some b =>
      rw [ek] at e1
      exact ⟨v, .ty t, .type (tyD d), .type t, b, rfl, .ty t, dv.ty n1.rs.ex (noDict_of nd), kit_ty ek, fin n1.rs e1 (step_q n1 q) (.bl b)⟩
  · cases e1
def isi2M (t u : String) (f : DE) : DE := fun ρ => bnd (f ρ) fun d ρ1 => match noDict d, kitB (tyD d) t, kitB (tyD d) u with
  | true, some a, some b => some (.ok (.bool (a || b)) ρ1)
  | _, _, _ => none
theorem kit_any2 {K0 : PySem.W.Frag} {t : Value} {u1 u2 : Value} {b1 b2 : Bool} (h1 : PySem.W.kitOne K0 t u1 = some b1) (h2 : PySem.W.kitOne K0 t u2 = some b2) : PySem.W.kitAny K0 t [u1, u2] = some (b1 || b2) := by
  rw [PySem.W.kitAny.eq_2, h1]
  cases b1 with
  | true => rfl
  | false =>
    show PySem.W.kitAny K0 t [u2] = _
    rw [PySem.W.kitAny.eq_2, h2]
    cases b2 <;> rfl
theorem ed_isi2 {t u : String} (he : Ed K ec W te f) : Ed K ec W (tCB (rIsiT K) (tCons te (tCons (tTup (tCons (tC (.ty t)) (tCons (tC (.ty u)) tNil))) tNil))) (isi2M t u f) := by
  intro F H σ ρ o rs e Q q hf
  refine he.go rs e hf fun d ρ1 v F1 H1 n1 dv e1 hf1 => ?_
  split at e1
  · rename_i b1 b2 nd k1 k2
    refine ⟨by show 2 ≤ sizeLine; decide, fun p hp => ?_⟩
    have n2 := n1.rs.newOwn (o := .tup [.ty t, .ty u]) hp fun ps z => by cases z
    refine ⟨v, p, [.ty t, .ty u], .type (tyD d), [.type t, .type u], b1 || b2, rfl, upd_same, .cons (.ty t) (.cons (.ty u) .nil), ?_, kit_any2 (kit_ty k1) (kit_ty k2), ?_⟩
    · exact Dq.ty (Ex.mut n1.rs.ex (fresh_back n1.rs.ex hp)) dv (noDict_of nd)
    · cases e1
      exact q _ _ rfl _ F1 _ (n1.trans n2) (.bl _)
  · cases e1
/-! ### truth -/
def truD : PyData → Option Bool
  | .none => some false
  | .bool b => some b
  | .int i => some (i != 0)
  | .list ds => some (!ds.isEmpty)
  | .tuple ds => some (!ds.isEmpty)
  | _ => none
theorem DqAll.isEmpty : ∀ {vs : List V} {ds : List PyData}, DqAll K F vs ds → vs.isEmpty = ds.isEmpty
  | _, _, .nil => rfl
  | _, _, .cons _ _ => rfl
theorem Dq.tru {b : Bool} (ex : Ex F H) (h : Dq K F v a) (e : truD a = some b) : TruV K.K v H b := by
  cases h with
  | non => cases e; exact rfl
  | bl b => cases e; exact rfl
  | int i => cases e; exact rfl
  | str x => cases e
  | lst ha hs => cases e; exact .inl ⟨_, SqL.of (ex _ _ ha), by rw [hs.isEmpty]⟩
  | scr _ _ => cases e
  | lam _ _ _ => cases e
  | tup ha hs => cases e; exact .inr (.inl ⟨_, TupZ.sq ha (ex), by rw [hs.isEmpty]⟩)
def truB (f : DE) : DB := fun ρ => bnd (f ρ) fun d ρ1 => (truD d).map fun b => .ok b ρ1
def tTru (K : PySem.W.Frag) (te : TE) : TT := fun σ H Q => te σ H fun x H' => ∃ k, TruV K x H' k ∧ Q k H'
theorem pt_tru {X : Cx} {e : Expr} (he : PE X e te) (hi : ∀ whole : Sem Value, PySem.isTrue e X.env whole = (do let v ← whole; standAt e.pos; holding [v] (truthy v)) := by intro _; rfl) : PT X e (tTru X.K te) := pt_truth he hi
theorem et_tru (he : Ed K ec W te f) : Et K ec W (tTru K te) (truB f) := by
  intro F H σ ρ o rs e Q q hf
  refine he.go rs e hf fun d ρ1 v F1 H1 n1 dv e1 hf1 => ?_
  cases et : truD d with
  | none => rw [et] at e1; cases e1
  | some b =>
    rw [et] at e1
    cases e1
    exact ⟨b, dv.tru n1.rs.ex et, q _ _ rfl F1 H1 n1⟩
/-! ### a < b < c -/
def chainM (op op' : Op) (f g h : DE) : DE := fun ρ => bnd (f ρ) fun a ρ1 => bnd (g ρ1) fun b ρ2 => match op a b with
  | some (.bool true) => bnd (h ρ2) fun c ρ3 => (op' b c).map fun d => .ok d ρ3
  | some (.bool false) => some (.ok (.bool false) ρ2)
  | _ => none
theorem dq_bool {F : Hp} {u : V} {b : Bool} (h : Dq K F u (.bool b)) : u = .bl b := by cases h; rfl
/-- the op tells a bool: no new object -/
def OpB (K : PKt) (r : R2) (op : Op) : Prop := ∀ (F H : Hp) (v w : V) (a b : PyData) (k : Bool), Ex F H → Dq K F v a → Dq K F w b → op a b = some (.bool k) → ∀ Q : VK, Q (.bl k) H → r v w H Q
theorem OpD.opB {r : R2} {op : Op} (h : OpD K r op) : OpB K r op := by
  intro F H v w a b k ex dv dw e Q q
  refine h F H v w a b _ ex dv dw e Q (fun u du => by rw [dq_bool du]; exact q) fun p ob _ hp dp => ?_
  cases dp
theorem ed_chain {r r' : R2} {op op' : Op} (hr : OpD K r op) (hr' : OpD K r' op') (ha : Ed K ec W ta f) (hb : Ed K ec W tb g) (hc : Ed K ec W tc h) : Ed K ec W (tChain r r' ta tb tc) (chainM op op' f g h) := by
  intro F H σ ρ o rs e Q q hf
  refine ha.go rs e hf fun a ρ1 v F1 H1 n1 dv e1 hf1 => ?_
  refine hb.go n1.rs e1 hf1 fun b ρ2 w F2 H2 n2 dw e2 hf2 => ?_
  split at e2
  · rename_i eo
    refine hr.opB F2 H2 v w a b true n2.rs.ex (dv.mono n2.go.fr) dw eo _ ⟨true, rfl, ?_⟩
    rw [if_pos rfl]
    refine hc.go n2.rs e2 hf2 fun c ρ3 x F3 H3 n3 dx e3 hf3 => ?_
    cases eo' : op' b c with
    | none => rw [eo'] at e3; cases e3
    | some d =>
      rw [eo'] at e3
      exact hr' F3 H3 w x b c d n3.rs.ex (dw.mono n3.go.fr) dx eo' Q (fun u du => fin n3.rs e3 (step_q ((n1.trans n2).trans n3) q) du) fun p ob nt hp dp => finN nt n3.rs e3 (step_q ((n1.trans n2).trans n3) q) hp dp
  · rename_i eo
    refine hr.opB F2 H2 v w a b false n2.rs.ex (dv.mono n2.go.fr) dw eo _ ⟨false, rfl, ?_⟩
    rw [if_neg (by decide)]
    exact fin n2.rs e2 (step_q (n1.trans n2) q) (.bl false)
  · cases e2
/-! ### slices -/
abbrev DO := Rho → Option (Ou (Option Int))
def Eb (K : PKt) (ec : EC) (W : WX) (to : TO) (f : DO) : Prop := ∀ (F H : Hp) (σ : L2.St) (ρ : Rho) (o : Ou (Option Int)), RS K F H σ ρ → f ρ = some o → ∀ Q : Option Int → Hp → Prop,
  (∀ i ρ', o = .ok i ρ' → ∀ F' H', Nx K σ ρ ρ' F H F' H' → Q i H') → Fail K ec W σ ρ F H o → to σ H Q
def noM : DO := fun ρ => some (.ok none ρ)
def partM (f : DE) : DO := fun ρ => bnd (f ρ) fun d ρ1 => match d with | .int i => some (.ok (some i) ρ1) | _ => none
theorem eb_no : Eb K ec W tNoPart noM := by
  intro F H σ ρ o rs e Q q hf
  cases e
  exact q _ _ rfl F H (Nx.refl rs)
theorem eb_part (he : Ed K ec W te f) : Eb K ec W (tPart te) (partM f) := by
  intro F H σ ρ o rs e Q q hf
  refine he.go rs e hf fun d ρ1 v F1 H1 n1 dv e1 hf1 => ?_
  cases dv with
  | int i => cases e1; exact ⟨i, rfl, q _ _ rfl F1 H1 n1⟩
  | _ => cases e1
theorem Eb.go {β : Type} {to : TO} {fo : DO} (hh : Eb K ec W to fo) (rs : RS K F H σ ρ) {k : Option Int → Rho → Option (Ou β)} {o : Ou β} (e : bnd (fo ρ) k = some o) (hf : Fail K ec W σ ρ F H o) {Q : Option Int → Hp → Prop}
    (hk : ∀ i ρ1 F1 H1, Nx K σ ρ ρ1 F H F1 H1 → k i ρ1 = some o → Fail K ec W σ ρ1 F1 H1 o → Q i H1) : to σ H Q := by
  unfold bnd at e
  cases ef : fo ρ with
  | none => rw [ef] at e; cases e
  | some x =>
    rw [ef] at e
    cases x with
    | ok d ρ1 => exact hh F H σ ρ _ rs ef Q (fun d' ρ' e' F' H' n => by cases e'; exact hk d ρ1 F' H' n e (hf.step n)) Fail.ok
    | ex c d ρ1 => cases e; exact hh F H σ ρ _ rs ef Q (fun d' ρ' e' => by cases e') hf.ex
def cutD (ds : List PyData) (lo hi : Option Int) : List PyData := (ds.drop (HT.sIx ds.length 0 lo)).take (HT.sIx ds.length ds.length hi - HT.sIx ds.length 0 lo)
def slP (d : PyData) (lo hi : Option Int) : Option PyData := match d with
  | .list ds => some (.list (cutD ds lo hi))
  | .tuple ds => some (.tuple (cutD ds lo hi))
  | _ => none
def slM (f : DE) (lo hi : DO) : DE := fun ρ => bnd (f ρ) fun d ρ1 => bnd (lo ρ1) fun l ρ2 => bnd (hi ρ2) fun u ρ3 => (slP d l u).map fun d => .ok d ρ3
theorem DqAll.cut {vs : List V} {ds : List PyData} (h : DqAll K F vs ds) (lo hi : Option Int) : DqAll K F (cutV vs lo hi) (cutD ds lo hi) := by
  unfold cutV cutD
  rw [h.length]
  exact (h.drop _).take _
theorem ed_sl {tlo thi : TO} {flo fhi : DO} (he : Ed K ec W te f) (hlo : Eb K ec W tlo flo) (hhi : Eb K ec W thi fhi) : Ed K ec W (tSl (rSlP K) te tlo thi) (slM f flo fhi) := by
  intro F H σ ρ o rs e Q q hf
  refine he.go rs e hf fun d ρ1 v F1 H1 n1 dv e1 hf1 => ?_
  refine hlo.go n1.rs e1 hf1 fun l ρ2 F2 H2 n2 e2 hf2 => ?_
  refine hhi.go n2.rs e2 hf2 fun u ρ3 F3 H3 n3 e3 hf3 => ?_
  have n := (n1.trans n2).trans n3
  have dv3 := (dv.mono n2.go.fr).mono n3.go.fr
  cases dv3 with
  | lst ha hs =>
    exact .inl ⟨_, _, rfl, SqL.of (n3.rs.ex _ _ ha), fun p hp => finN (fun ps z => by cases z) n3.rs e3 (step_q n q) hp (.lst upd_same ((hs.cut l u).mono (Ex.new (fresh_back n3.rs.ex hp))))⟩
  | tup ha hs =>
    refine .inr ⟨_, _, rfl, TupZ.sq ha (n3.rs.ex), fun z => ?_, fun _ p hp => finN (fun ps z => by cases z) n3.rs e3 (step_q n q) hp (.tup (.inl upd_same) ((hs.cut l u).mono (Ex.new (fresh_back n3.rs.ex hp))))⟩
    rename_i ads axs ads2
    have this : cutD ads2 l u = ads2 := by
      unfold cutD
      rw [hs.length] at z
      rw [z.1, z.2, Nat.sub_zero, List.drop_zero]
      exact List.take_length
    have e4 : (some (.ok (.tuple (cutD ads2 l u)) ρ3) : Option (Ou PyData)) = some o := e3
    rw [this] at e4
    exact fin n3.rs e4 (step_q n q) (.tup ha hs)
  | _ => cases e3
/-! ### a name's own list, looked at -/
def lenOM (i : Nat) : DE := fun ρ => match ρ[i]? with
  | some (.own _ ds) => some (.ok (.int ds.length) ρ)
  | some (.fro (.list ds)) => some (.ok (.int ds.length) ρ)
  | _ => none
theorem ed_lenO {i : Nat} : Ed K ec W (tCB (fun xs H Q => ∃ p ys, xs = [V.ref p] ∧ (SqL K H p ys ∨ SqT K H p ys) ∧ Q (V.int (ys.length : Nat)) H) (tCons (tVar i) tNil)) (lenOM i) := by
  intro F H σ ρ o rs e Q q hf
  unfold lenOM at e
  split at e
  · rename_i t ds h0
    obtain ⟨a, vs, h1, h2, h3, h4⟩ := rs.own i t ds h0
    exact ⟨.ref a, h1, a, vs, rfl, .inl (SqL.of h3), by rw [h4.length]; exact fin rs e q (.int _)⟩
  · rename_i ds h0
    obtain ⟨v, h1, h2⟩ := rs.fro i _ h0
    cases h2 with
    | lst ha hs => exact ⟨_, h1, _, _, rfl, .inl (SqL.of (rs.ex _ _ ha)), by rw [hs.length]; exact fin rs e q (.int _)⟩
  · cases e
def ixOM (i : Nat) (f : DE) : DE := fun ρ => match ρ[i]? with
  | some (.own _ _) => bnd (f ρ) fun k ρ1 => match k, ρ1[i]? with
    | .int k, some (.own _ ds) => ((at? ds.length k).bind fun j => ds[j]?).map fun d => .ok d ρ1
    | _, _ => none
  | some (.fro (.list ds)) => bnd (f ρ) fun k ρ1 => (ixP (.list ds) k).map fun d => .ok d ρ1
  | _ => none
theorem ed_ixO {i : Nat} (he : Ed K ec W te f) : Ed K ec W (tOp (rIxP K) (tVar i) te) (ixOM i f) := by
  intro F H σ ρ o rs e Q q hf
  unfold ixOM at e
  split at e
  · rename_i t0 ds0 h0
    obtain ⟨a, vs0, h1, h2, h3, h4⟩ := rs.own i t0 ds0 h0
    refine ⟨.ref a, h1, ?_⟩
    refine he.go rs e hf fun k ρ1 vk F1 H1 n1 dk e1 hf1 => ?_
    split at e1
    · rename_i k t ds hh
      obtain ⟨b, ws, g1, g2, g3, g4⟩ := n1.rs.own i t ds hh
      rw [h1] at g1
      cases g1
      cases dk
      cases ed : ((at? ds.length k).bind fun j => ds[j]?) with
      | none => rw [ed] at e1; cases e1
      | some d =>
        rw [ed] at e1
        obtain ⟨v, w1, w2⟩ := at_of g4 ed
        exact .inl ⟨a, ws, k, v, rfl, rfl, SqL.of g3, w1, fin n1.rs e1 (step_q n1 q) w2⟩
    · cases e1
  · rename_i ds h0
    obtain ⟨v0, h1, h2⟩ := rs.fro i _ h0
    refine ⟨v0, h1, ?_⟩
    refine he.go rs e hf fun k ρ1 vk F1 H1 n1 dk e1 hf1 => ?_
    cases eo : ixP (.list ds) k with
    | none => rw [eo] at e1; cases e1
    | some d =>
      rw [eo] at e1
      exact opd_ix F1 H1 v0 vk _ k d n1.rs.ex (h2.mono n1.go.fr) dk eo Q (fun u du => fin n1.rs e1 (step_q n1 q) du) fun p ob nt hp dp => finN nt n1.rs e1 (step_q n1 q) hp dp
  · cases e
/-- a name's own list, copied as a tuple -/
def tupOM (i : Nat) : DE := fun ρ => match ρ[i]? with
  | some (.own _ ds) => some (.ok (.tuple ds) ρ)
  | some (.fro (.list ds)) => some (.ok (.tuple ds) ρ)
  | _ => none
theorem ed_tupO {i : Nat} : Ed K ec W (tCB (fun xs H Q => ∃ p ys, xs = [V.ref p] ∧ ((SqL K H p ys ∧ ∀ (l : Addr), H l = none → Q (V.ref l) (upd H l (HO.tup ys))) ∨ SqT K H p ys ∧ Q (V.ref p) H)) (tCons (tVar i) tNil)) (tupOM i) := by
  intro F H σ ρ o rs e Q q hf
  unfold tupOM at e
  split at e
  · rename_i t ds h0
    obtain ⟨a, vs, h1, h2, h3, h4⟩ := rs.own i t ds h0
    exact ⟨.ref a, h1, a, vs, rfl, .inl ⟨SqL.of h3, fun p hp => finN (fun ps z => by cases z) rs e q hp (.tup (.inl upd_same) (h4.mono (Ex.new (fresh_back rs.ex hp))))⟩⟩
  · rename_i ds h0
    obtain ⟨v, h1, h2⟩ := rs.fro i _ h0
    cases h2 with
    | lst ha hs => exact ⟨_, h1, _, _, rfl, .inl ⟨SqL.of (rs.ex _ _ ha), fun p hp => finN (fun ps z => by cases z) rs e q hp (.tup (.inl upd_same) (hs.mono (Ex.new (fresh_back rs.ex hp))))⟩⟩
  · cases e
end
end Pd

/-! try with several clauses: the wish of a clause may lean on how many names there are. -/
namespace L2
open PySem PySem.Spec PyProof.Rows
def wLen (n : Nat) (W : WX) : WX := fun cls d σ H => σ.length = n → W cls d σ H
section
variable {X : Cx} {body : List Stmt} {h₀ : ExceptHandler} {hds : List ExceptHandler} {l : List (Value × Option Nat × Suit)} {pos : Pos} {tb : WX → TS} {Wo : WX}
theorem ps_try_len (hs : X.stack = X.env :: X.outer) (hf : X.env.frame = some X.env.locals) (hN : X.N.Nodup) (tk : Takes X Wo)
    (hb : ∀ (W : WX) (pn : List (Addr × Obj)) (xe : Value → Shared → Prop), Takes (X.tr pn xe) W → PassesOwn (model X.prog X.w) X.A X.env xe → PSs (X.tr pn xe) body (tb W))
    (hh : Hds X (h₀ :: hds) l) : PS X (.Try body (h₀ :: hds) [] [] pos) (fun D σ H => tb (wLen X.N.length (wHd X.K Wo D l)) D σ H) := by
  refine ⟨fun pins s σ H D I h => ?_⟩
  have ok := I.ok
  have hfr : X.A.frames = some (X.env :: X.outer) := by rw [ok.frames, hs]
  refine wpAny_Try_except ?_
  refine wpAny_mono ((hb (wLen X.N.length (wHd X.K Wo D l)) (X.pn ++ pins) (fun e t₁ => wpAny (model X.prog X.w) X.A (noteFrame e X.env) (fun _ t₂ => wpAny (model X.prog X.w) X.A (setFlight e none) (fun _ t₃ =>
    wpAny (model X.prog X.w) X.A (handleBy e X.env (h₀ :: hds)) (SP X pins D) X.xe t₃) X.xe t₂) X.xe t₁) (fun u s' xx => ?_) PassesOwn.looking).run [] s σ H D (I.toTry _) h) (fun f s1 hsp => ?_) (fun e s1 he => he)
  · obtain ⟨a, B, sI, pins', σ', H', cls, d, rfl, J', nb, up, sky, na, os, ag, w0⟩ := xx
    have w := w0 J'.len
    have J : Inv X pins σ' H' sI := J'.ofTry ok
    rw [hs] at sky
    show wpAny (model X.prog X.w) X.A (noteFrame (.ref a) X.env) _ _ _
    refine Sky.land Zc.steady hfr hf sky fun h3 fl3 up3 => ?_
    have J3 : Inv X pins σ' H' { s' with heap := h3 } := J.landed nb fl3.1 (up.trans up3) os ag
    obtain ⟨oe3, vs3, he3, hz3, hd3⟩ := fl3.there
    have nfr : a ∉ frs (X.env :: X.outer) := fun hm => by
      obtain ⟨_, o', e', hnf⟩ := fl3.2.2.1.mem hm
      rw [he3] at e'
      cases e'
      exact hnf _ hd3
    have nL : a ≠ X.env.locals := fun z => nfr (List.mem_filterMap.mpr ⟨X.env, List.mem_cons_self, by rw [hf, z]⟩)
    have nF : a ∉ X.fs := fun hm => by
      obtain ⟨e, he, q⟩ := List.mem_filterMap.mp hm
      exact nfr (List.mem_filterMap.mpr ⟨e, List.mem_cons_of_mem _ he, q⟩)
    have S3 := J3.suite he3 hd3 na nL nF
    have LT : PySem.W.Looks (model X.prog X.w) h3 (typeOf (.ref a)) cls := fun A Q E s k q => wpAny_typeOf_ref (k _ _ he3) (by rw [hz3.1]; exact q)
    have tst : ∀ {x : Str} {c : Value} {np : Pos} {Q : Value → Shared → Prop} {E : Value → Shared → Prop}, Names X x c → Q c { s' with heap := h3 } → wpAny (model X.prog X.w) (X.A.mark (some (.ref a))) (eval (.Name x np) X.env) Q E { s' with heap := h3 } := fun {x c np Q E} hc q => by
      obtain ⟨hg, hdbg, hm | ⟨hm, hv, hnn⟩⟩ := hc
      · exact ld_glob (X := X.suite a ((a, oe3) :: (X.pn ++ pins))) S3 hg hm q hdbg
      · exact ld_blt (X := X.suite a ((a, oe3) :: (X.pn ++ pins))) S3 hg hm hv q hnn hdbg
    have go : ∀ {hd2 : List ExceptHandler} {l2 : List (Value × Option Nat × Suit)}, Hds X hd2 l2 → wHd X.K Wo D l2 cls d σ' H' → wpAny (model X.prog X.w) X.A (handleBy (.ref a) X.env hd2) (SP X pins D) X.xe { s' with heap := h3 } := by
      intro hd2 l2 hk
      induction hk with
      | nil =>
        intro w
        refine wpAny_handleBy_nil ?_
        obtain ⟨k1, k2, k3, oe, vs, T, oT, tr, he, hz, hd, h1, hr⟩ := id fl3
        unfold PySem.passOn
        refine wpAny_bind (wpAny_field he hd h1 ?_)
        rw [if_neg (show ¬ ((Value.ref T == Value.none) = true) from by simp)]
        have fin : wpAny (model X.prog X.w) X.A (setFlight (.ref a) X.env.frame) (fun _ s4 => wpAny (model X.prog X.w) X.A (throw (.ref a) : Sem Flow) (SP X pins D) X.xe s4) X.xe { s' with heap := h3 } := by
          rw [hf]
          refine HandSPX.setFlight_upZ fl3 fun h4 hh4 up4 => wpAny_throw (tk _ _ ?_)
          exact ⟨a, B, sI, pins, σ', H', cls, d, rfl, J, nb, (up.trans up3).trans up4, .inr (.inr (by rw [hs]; exact hh4)), na, os, ag, w⟩
        first | exact wpAny_bind (wpAny_pure (wpAny_bind fin)) | exact wpAny_bind fin
      | @bare x c ts b₀ suite np pp hds2 l2 hc hsu r ih =>
        intro w
        obtain ⟨b, hb1, hyes, hno⟩ := w
        have LM := PySem.W.exm_one (M := model X.prog X.w) (J3.kIn) LT hb1
        refine wpAny_handleBy_cons (codeAny_handlers_test (tst hc (LM.here ?_))) (by intro q; cases q)
        cases b with
        | false =>
          show wpAny _ X.A (handleBy (.ref a) X.env hds2) _ _ _
          exact ih (hno rfl)
        | true =>
          refine codeAny_handlers_suite (HandSPX.lands_againZ fl3 fun h4 fl4 up4 => ?_)
          have J4 : Inv X pins σ' H' { s' with heap := h4 } := J.landed nb fl4.1 ((up.trans up3).trans up4) os ag
          obtain ⟨oe4, vs4, he4, hz4, hd4⟩ := fl4.there
          refine wpAny_mono ((hsu a oe4 cls d (X.pn ++ pins) hz4 ⟨_, hd4⟩).run [] _ _ H' _ (J4.suite he4 hd4 na nL nF) (hyes rfl a na)) (fun f s6 hsp => ?_) (fun _ _ z => False.elim z)
          cases f with
          | ret u =>
            obtain ⟨v6, σ6, H6, S6, r6, q6⟩ := hsp
            exact ⟨_, _, _, S6.unsuite ok, r6, q6⟩
          | next => obtain ⟨σ6, H6, S6, q6⟩ := hsp; exact ⟨_, _, S6.unsuite ok, q6⟩
          | brk => obtain ⟨σ6, H6, S6, q6⟩ := hsp; exact ⟨_, _, S6.unsuite ok, q6⟩
          | cont => obtain ⟨σ6, H6, S6, q6⟩ := hsp; exact ⟨_, _, S6.unsuite ok, q6⟩
      | @named x n c i ts b₀ suite np pp hds2 l2 hc hi hln hsu r ih =>
        intro w
        obtain ⟨b, hb1, hyes, hno⟩ := w
        have LM := PySem.W.exm_one (M := model X.prog X.w) (J3.kIn) LT hb1
        refine wpAny_handleBy_cons (codeAny_handlers_test (tst hc (LM.here ?_))) (by intro q; cases q)
        cases b with
        | false =>
          show wpAny _ X.A (handleBy (.ref a) X.env hds2) _ _ _
          exact ih (hno rfl)
        | true =>
          refine codeAny_handlers_suite_as (HandSPX.lands_againZ fl3 fun h4 fl4 up4 => ?_)
          have J4 : Inv X pins σ' H' { s' with heap := h4 } := J.landed nb fl4.1 ((up.trans up3).trans up4) os ag
          obtain ⟨oe4, vs4, he4, hz4, hd4⟩ := fl4.there
          refine store_ok (X := X.suite a ((a, oe4) :: (X.pn ++ pins))) (v := .ref a) (J4.suite he4 hd4 na nL nF) hN hi (.inl hln) rfl (fun s5 S5 => ?_) (.inr hln)
          refine wpAny_mono ((hsu a oe4 cls d (X.pn ++ pins) hz4 ⟨_, hd4⟩).run [] s5 _ H' _ S5 (hyes rfl a na)) (fun f s6 hsp => ?_) (fun _ _ z => False.elim z)
          have gone : ∀ {σ6 : L2.St} {H6 : Hp} {Q : Shared → Prop}, Inv (X.suite a ((a, oe4) :: (X.pn ++ pins))) [] σ6 H6 s6 → (∀ s7, Inv X pins (σ6.set i none) H6 s7 → Q s7) →
              wpAny (model X.prog X.w) X.A (do bindName X.env n .none; unbindBehindTheSuite X.env n pp) (fun _ s7 => Q s7) X.xe s6 := fun {σ6 H6 Q} S6 hq => gone_ok (S6.unsuite ok) hN hi hln hq
          cases f with
          | ret u =>
            obtain ⟨v6, σ6, H6, S6, r6, q6⟩ := hsp
            exact gone S6 fun s7 J7 => ⟨_, _, _, J7, r6, q6⟩
          | next => obtain ⟨σ6, H6, S6, q6⟩ := hsp; exact gone S6 fun s7 J7 => ⟨_, _, J7, q6⟩
          | brk => obtain ⟨σ6, H6, S6, q6⟩ := hsp; exact gone S6 fun s7 J7 => ⟨_, _, J7, q6⟩
          | cont => obtain ⟨σ6, H6, S6, q6⟩ := hsp; exact gone S6 fun s7 J7 => ⟨_, _, J7, q6⟩
    exact go hh w
  · cases f with
    | ret u =>
      obtain ⟨v, σ', H', J', r, q⟩ := hsp
      exact ⟨v, σ', H', J'.ofTry ok, r, q⟩
    | next => obtain ⟨σ', H', J', q⟩ := hsp; exact wpAny_execs_nil ⟨σ', H', J'.ofTry ok, q⟩
    | brk => obtain ⟨σ', H', J', q⟩ := hsp; exact ⟨σ', H', J'.ofTry ok, q⟩
    | cont => obtain ⟨σ', H', J', q⟩ := hsp; exact ⟨σ', H', J'.ofTry ok, q⟩
end
end L2

namespace Pd
open PySem L2 Evl
/-! ### clauses -/
abbrev Cls := Value × Option Nat × Suit
/-- what clauses answer to an error of number c that keeps d -/
abbrev DH := Nat → PyData → Option PyData
def Hres (K : PKt) (ec : EC) (n : Nat) (l : List Cls) (hs : DH) : Prop := ∀ (c : Nat) (d r : PyData) (cls : Value) (dd : Option Addr) (F H : Hp) (σ : L2.St), σ.length = n → Ex F H → Xr K ec F H c d cls dd → hs c d = some r → ∀ (Wo : WX) (D : Ends),
  (∀ u, Dq K F u r → D.rt u H) → (∀ p ob, (∀ ps, ob ≠ .tbl ps) → H p = none → Dq K (upd F p ob) (.ref p) r → D.rt (.ref p) (upd H p ob)) → wHd K Wo D l cls dd σ H
def nilH : DH := fun _ _ => none
/-- a clause that answers by k where it is hit -/
def consH (hit : Nat → Option Bool) (k : PyData → PyData) (hs : DH) : DH := fun c d => match hit c with
  | some true => some (k d)
  | some false => hs c d
  | none => none
section
variable {K : PKt} {ec : EC} {W : WX} {mg : Str → Option Value} {n : Nat} {l : List Cls} {hs : DH} {F H : Hp} {σ : L2.St} {ρ : Rho}
theorem hres_nil : Hres K ec n [] nilH := by
  intro c d r cls dd F H σ hn ex x e
  cases e
/-- return (w, e.at) -/
theorem hres_wordA {hit : Nat → Option Bool} {C : Value} {i : Nat} {w : Str} (hi : i < n) (hx : ∀ c b, hit c = some b → PySem.W.exmOne K (.ref (ec.C c)) C = some b)
    (hf : ∀ c, hit c = some true → ec.fld c = "at" ∧ ∃ cn q B fI, PErrA.Txt K mg cn q (ec.C c) B fI) (hr : Hres K ec n l hs) :
    Hres K ec n ((C, some i, fun a cls d => tRet (tTup (tCons (tC (.str w)) (tCons (tFldA K mg a cls d (tVar i)) tNil)))) :: l) (consH hit (fun d => .tuple [.str w, d]) hs) := by
  intro c d r cls dd F H σ hn ex x e Wo D q1 q2
  unfold consH at e
  have x0 := x
  obtain ⟨rfl, a0, v, rfl, ha0, dv⟩ := x
  split at e
  · rename_i eh
    cases e
    refine ⟨true, hx c true eh, fun _ a ha => ?_, fun z => Bool.noConfusion z⟩
    obtain ⟨hat, cn, q, B, fI, T⟩ := hf c eh
    rw [hat] at ha0
    refine ⟨.ref a, List.getElem?_set_self (by rw [hn]; exact hi), rfl, cn, q, _, B, fI, T, rfl, a0, v, rfl, ha0, ?_⟩
    exact ⟨by show 2 ≤ sizeLine; decide, fun p hp => q2 p _ (fun ps z => by cases z) hp (.tup (.inl upd_same) (.cons (.str w) (.cons (dv.mono (Ex.new (fresh_back ex hp))) .nil)))⟩
  · rename_i eh
    exact ⟨false, hx c false eh, fun z => Bool.noConfusion z, fun _ => hr c d r _ _ F H σ hn ex x0 e Wo D q1 q2⟩
  · cases e
/-- return (w, e.word) -/
theorem hres_wordW {hit : Nat → Option Bool} {C : Value} {i : Nat} {w : Str} (hi : i < n) (hx : ∀ c b, hit c = some b → PySem.W.exmOne K (.ref (ec.C c)) C = some b)
    (hf : ∀ c, hit c = some true → ec.fld c = "word" ∧ ∃ cn q B fI, PErrW.Txt K mg cn q (ec.C c) B fI) (hr : Hres K ec n l hs) :
    Hres K ec n ((C, some i, fun a cls d => tRet (tTup (tCons (tC (.str w)) (tCons (tFldW K mg a cls d (tVar i)) tNil)))) :: l) (consH hit (fun d => .tuple [.str w, d]) hs) := by
  intro c d r cls dd F H σ hn ex x e Wo D q1 q2
  unfold consH at e
  have x0 := x
  obtain ⟨rfl, a0, v, rfl, ha0, dv⟩ := x
  split at e
  · rename_i eh
    cases e
    refine ⟨true, hx c true eh, fun _ a ha => ?_, fun z => Bool.noConfusion z⟩
    obtain ⟨hat, cn, q, B, fI, T⟩ := hf c eh
    rw [hat] at ha0
    refine ⟨.ref a, List.getElem?_set_self (by rw [hn]; exact hi), rfl, cn, q, _, B, fI, T, rfl, a0, v, rfl, ha0, ?_⟩
    exact ⟨by show 2 ≤ sizeLine; decide, fun p hp => q2 p _ (fun ps z => by cases z) hp (.tup (.inl upd_same) (.cons (.str w) (.cons (dv.mono (Ex.new (fresh_back ex hp))) .nil)))⟩
  · rename_i eh
    exact ⟨false, hx c false eh, fun z => Bool.noConfusion z, fun _ => hr c d r _ _ F H σ hn ex x0 e Wo D q1 q2⟩
  · cases e
/-! ### told(lambda: ..) -/
def TTh (K : PySem.W.Frag) (n : Nat) (l : List Cls) : (XK → Hp → VK → Prop) → Hp → VK → Prop := fun tl H Q =>
  tl (fun cls d H' => ∀ σ' : L2.St, σ'.length = n → wHd K (fun _ _ _ _ => False) { nx := fun _ H' => Q .non H', rt := Q } l cls d σ' H') H Q
theorem told_hd {X : Cx} {Ng : List Str} {x a q : Str} {sg : Scope} {g : Addr} {cdg : Value} {p1 p2 p3 pos : Pos} {h0 : ExceptHandler} {hds : List ExceptHandler} (hN : Ng.Nodup)
    (h1 : ∀ f : Addr, (L2.start Ng [V.ref f])[0]? = some (some (V.ref f)))
    (hh : ∀ (s : Shared) (H : Hp), Hds ((cxOf C8.CX0 X.prog X.w X.K X.mg X.base Ng x sg g cdg X.A X.stack s H C8.E0).nox) (h0 :: hds) l) :
    LamX.GivesTo X Ng x sg g cdg [.Try [.Return (some (.Call (.Name a p1) [] [] p2)) p3] (h0 :: hds) [] [] pos] a q (TTh X.K Ng.length l) := by
  intro f c' s H Q tl hcall hc htt
  refine ⟨_, pss_one (ps_try_len rfl rfl hN (fun _ _ z => by obtain ⟨a, B, sI, pins, σ, H, cls, d, _, _, _, _, _, _, _, _, w⟩ := z; exact w) (fun W pn xe tk _ => pss_one (ps_ret (hcall W pn xe (fun cls d H' => ∀ σ', W cls d σ' H') p1 p2 tk fun cls d σ' H' k => k σ'))) (hh s H)), ?_⟩
  exact ⟨h1 f, hc, htt⟩
def toldM (hs : DH) (f : DE) : DE := fun ρ => match f ρ with
  | some (.ok d ρ1) => some (.ok d ρ1)
  | some (.ex c d ρ1) => (hs c d).map fun r => .ok r ρ1
  | none => none
theorem extN_ex {F H H1 : Hp} (nt : Nt F) (ex : Ex F H) (x : LamX.ExtN H H1) : Ex F H1 := fun a o h => x a o (ex a o h) fun ps z => nt a ps (by rw [h, z])
theorem RS.extN (rs : RS K F H σ ρ) {H1 : Hp} (x : LamX.ExtN H H1) (t : LamX.Tabs K.T H1) : Nx K σ ρ ρ F H F H1 := by
  refine ⟨⟨rs.len, t, rs.nt, extN_ex rs.nt rs.ex x, rs.fro, fun i t ds h => ?_, rs.apart⟩, ⟨Ex.refl F, extN_ex rs.nt rs.ex x, fun a o h k _ => x a o h k, fun a h _ _ => h, fun _ => t, id⟩, fun _ _ ds h => ⟨ds, h⟩, fun a h => ?_⟩
  · obtain ⟨a, vs, h1, h2, h3, h4⟩ := rs.own i t ds h
    exact ⟨a, vs, h1, h2, x a _ h3 (fun ps z => by cases z), h4⟩
  · obtain ⟨o, h1, h2⟩ := h
    exact ⟨o, x a o h1 h2, h2⟩
theorem ed_told {t : XK → TE} {f : DE} (hb : ∀ E : XK, Ed K ec (fun cls d _ H => E cls d H) (t E) f) (hr : Hres K ec n l hs) : Ed K ec W (LamX.tLam K.T (TTh K n l) t) (toldM hs f) := by
  intro F H σ ρ o rs e Q q hf
  refine ⟨rs.tab, fun H1 x tb => ?_⟩
  have n1 := rs.extN x tb
  unfold toldM at e
  show t _ σ H1 Q
  cases ef : f ρ with
  | none => rw [ef] at e; cases e
  | some oo =>
    rw [ef] at e
    refine hb _ F H1 σ ρ oo n1.rs ef Q (fun d ρ' eo v F' H' m dv => ?_) fun c d ρ' eo cls dd F' H' m xr => ?_
    · subst eo
      cases e
      exact q d ρ' rfl v F' H' (n1.trans m) dv
    · subst eo
      intro σ' hl
      have e' : ((hs c d).map fun r => (.ok r ρ' : Ou PyData)) = some o := e
      cases eh : hs c d with
      | none => rw [eh] at e'; cases e'
      | some r =>
        rw [eh] at e'
        cases e'
        exact hr c d r cls dd F' H' σ' hl m.rs.ex xr eh _ _ (fun u du => q r ρ' rfl u F' H' (n1.trans m) du) fun p ob nt hp dp => q r ρ' rfl (.ref p) _ _ ((n1.trans m).trans (m.rs.new hp nt)) dp
end
end Pd

/-! f(x=a, y=b): all arguments by name. -/
namespace L2
open PySem PySem.Spec PyProof.Rows
def sel {α : Type} (is : List Nat) (xs : List α) : List α := is.filterMap fun i => xs[i]?
theorem sel_vals {vs : List V} {us : List Value} (r : Vals vs us) : ∀ is : List Nat, Vals (sel is vs) (sel is us)
  | [] => .nil
  | i :: is => by
    have key : (vs[i]? = none ∧ us[i]? = none) ∨ ∃ v u, vs[i]? = some v ∧ us[i]? = some u ∧ RelV v u := by
      clear is
      induction r generalizing i with
      | nil => exact .inl ⟨rfl, rfl⟩
      | cons h t ih =>
        cases i with
        | zero => exact .inr ⟨_, _, rfl, rfl, h⟩
        | succ i => exact ih i
    unfold sel
    rw [List.filterMap_cons, List.filterMap_cons]
    rcases key with ⟨h1, h2⟩ | ⟨v, u, h1, h2, h3⟩
    · rw [h1, h2]; exact sel_vals r is
    · rw [h1, h2]; exact .cons h3 (sel_vals r is)
def KOnly (K : PySem.W.Frag) (fd : FuncData) (ps ks : List Str) (is : List Nat) : Prop := ∀ (s : Shared) (ws : List Value), K.In s.heap → ws.length = ks.length → BindsTo s fd { pos := [], kw := ks.zip ws } (ps.zip (sel is ws))
theorem Fun.konly {K : PySem.W.Frag} {x qual : Str} {st : Stmt} {f : Addr} {fd : FuncData} {ps ks : List Str} {is : List Nat} (F : Fun K x qual st f fd)
    (h : ∀ (kV doc pm : Value) (an : Option Addr) (cdv ct : Value) (ws : List Value), ws.length = ks.length → bindArgs (PySem.W.fnOf x qual (defArgs st) (defBody st) (defScope st) .none kV doc pm an cdv ct) { pos := [], kw := ks.zip ws } = pure (ps.zip (sel is ws))) : KOnly K fd ps ks is := by
  obtain ⟨oc, od, kV, doc, pm, an, cdv, ct, osl, rfl, lk, hcd⟩ := F.ex
  intro s ws _ hl
  exact BindsTo.of_eq (h kV doc pm an cdv ct ws hl)
section
variable {X : Cx} {CX : CXT} {k : Nat} {f : Addr} {fd : FuncData} {ps ks : List Str} {sp : Sp} {E : L2.St → XK} {x : Str} {p pos : Pos} {kws : List Keyword} {tk : TA} {is : List Nat}
theorem run_kw {pins : List (Addr × Obj)} {σ : L2.St} {H : Hp} {s : Shared} {Q : VK} {ws : List Value} {zs : List V} (F : FnOk X.prog X.w X.K X.mg X.base CX k f fd ps sp) (hr : Room k X.A) (hb : KOnly X.K fd ps ks is) (hx : PassesAt CX X σ (E σ)) (I : Inv X pins σ H s) (r : Vals zs ws) (hl : zs.length = ks.length) (h : sp (sel is zs) H Q (E σ)) :
    wpAny (model X.prog X.w) X.A (call (.ref f) [] (ks.zip ws)) (EP X pins σ Q) X.xe s := by
  have r2 := sel_vals r is
  have b := hb s ws I.kIn (by rw [← r.length]; exact hl)
  refine wpAny_call (codeAny_mono (F.run X.A X.stack s H { pos := [], kw := ks.zip ws } _ _ Q (E σ) hr I.env0 b r2 h) fun r s' hq => ?_)
  rcases r with e | (_ | _ | _ | u)
  · exact hx pins H s e s' I hq
  · exact False.elim hq
  · exact False.elim hq
  · exact False.elim hq
  · exact I.after hq
def tCallKw (n : Nat) (is : List Nat) (sp : Sp) (E : L2.St → XK) (tk : TA) : TE := fun σ H Q => tk σ H fun zs H1 => zs.length = n ∧ sp (sel is zs) H1 Q (E σ)
theorem pe_kwS (F : FnOk X.prog X.w X.K X.mg X.base CX k f fd ps sp) (hr : Room k X.A) (hg : Gl X x) (hm : X.mg x = some (.ref f)) (hk : PySem.W.keepIn X.K (.ref f) = true) (hb : KOnly X.K fd ps ks is) (hx : ∀ σ, PassesAt CX X σ (E σ)) (hkw : PK X kws tk)
    (hall : (backToKw pos (keywordEach kws X.env)).all (·.1.isSome) = true := by rfl) (hks : (backToKw pos (keywordEach kws X.env)).filterMap (·.1) = ks := by rfl) (hdb : (x == ("__debug__" : Str)) = false := by decide)
    (hpl : ((backTo pos (starEach [] X.env)).any (·.1) || (backToKw pos (keywordEach kws X.env)).any (·.1.isNone)) = false := by rfl) :
    PE X (.Call (.Name x p) [] kws pos) (tCallKw ks.length is sp E tk) := by
  refine ⟨fun pins s σ H Q I h => ?_⟩
  refine wpAny_Call_Name_kw (ld_glob I hg hm ?_ hdb)
  refine PySem.W.callWith_KW0 (h₀ := X.base) I.ok.mod.kin hk hall (thn (hkw.run pos pins s σ H _ I h) fun ws s1 hh => ?_) hpl
  obtain ⟨zs, H1, I1, r1, hl, q1⟩ := hh
  rw [hks]
  exact ⟨I1.kIn, run_kw F hr hb (hx σ) I1 r1 hl q1⟩
end
end L2

namespace Pd
open PySem L2 Evl
section
variable {K : PKt} {ec : EC} {W : WX} {tl : TA} {fl : DL}
theorem sel_dq {F : Hp} {vs : List V} {ds : List PyData} (h : DqAll K F vs ds) : ∀ is : List Nat, DqAll K F (sel is vs) (sel is ds)
  | [] => .nil
  | i :: is => by
    unfold sel
    rw [List.filterMap_cons, List.filterMap_cons]
    cases e : ds[i]? with
    | none =>
      have : vs[i]? = none := by
        rw [List.getElem?_eq_none_iff] at e ⊢
        rw [h.length]; exact e
      rw [this]
      exact sel_dq h is
    | some d =>
      obtain ⟨v, h1, h2⟩ := h.get e
      rw [h1]
      exact .cons h2 (sel_dq h is)
def kwM (m : Nat) (is : List Nat) (n : Nat) (fn : FnQ) (fl : DL) : DE := fun ρ => bnd (fl ρ) fun as ρ1 => if as.length = m ∧ (sel is as).length = n then (fn (sel is as)).map fun d => .ok d ρ1 else none
theorem ed_kw {m n : Nat} {is : List Nat} {fn : FnQ} {E : L2.St → XK} (h : Ea K ec W tl fl) : Ed K ec W (tCallKw m is (spQ K n fn) E tl) (kwM m is n fn fl) := by
  intro F H σ ρ o rs e Q q hf
  refine h.go rs e hf fun as ρ1 vs F1 H1 n1 dv e1 hf1 => ?_
  split at e1
  · rename_i hn
    cases ef : fn (sel is as) with
    | none => rw [ef] at e1; cases e1
    | some d =>
      rw [ef] at e1
      cases e1
      exact ⟨by rw [dv.length]; exact hn.1, n1.rs.tab, F1, _, d, n1.rs.nt, n1.rs.ex, sel_dq dv is, hn.2, ef, fun v F' H' g dv' => q d ρ1 rfl v F' H' (n1.trans (n1.rs.back g)) dv'⟩
  · cases e1
def kwE (m : Nat) (is : List Nat) (n : Nat) (fn : FnE) (fl : DL) : DE := fun ρ => bnd (fl ρ) fun as ρ1 => if as.length = m ∧ (sel is as).length = n then (fn (sel is as)).map fun r => match r with | .ok d => .ok d ρ1 | .er c d => .ex c d ρ1 else none
theorem ed_kwE {m n : Nat} {is : List Nat} {fn : FnE} (h : Ea K ec W tl fl) : Ed K ec W (tCallKw m is (spE K ec n fn) (WE W) tl) (kwE m is n fn fl) := by
  intro F H σ ρ o rs e Q q hf
  refine h.go rs e hf fun as ρ1 vs F1 H1 n1 dv e1 hf1 => ?_
  split at e1
  · rename_i hn
    cases ef : fn (sel is as) with
    | none => rw [ef] at e1; cases e1
    | some r =>
      rw [ef] at e1
      refine ⟨by rw [dv.length]; exact hn.1, n1.rs.tab, F1, _, r, n1.rs.nt, n1.rs.ex, sel_dq dv is, hn.2, ef, fun d er v F' H' g dv' => ?_, fun c d er cls dd F' H' g x => ?_⟩
      · subst er
        cases e1
        exact q d ρ1 rfl v F' H' (n1.trans (n1.rs.back g)) dv'
      · subst er
        cases e1
        exact hf1 c d ρ1 rfl cls dd F' H' (n1.rs.back g) x
  · cases e1
end
end Pd

namespace L2
open PySem PySem.Spec PyProof.Rows PySem.Calls
def tupIt (l : Addr) : Obj := { cls := Value.type "tuple_iterator", data := Data.fields #[Value.ref l, Value.int 0 0] }
def enumO (it : Addr) : Obj := { cls := Value.type "enumerate", data := Data.fields #[Value.none, Value.bool false, Value.ref it, rawInt 0, Value.none, Value.none] }
theorem meets_enumT (l : Addr) (items : Array Value) (n : Nat) :
  Meets (Builtin.«enumerate.__new__» { pos := [Value.type "enumerate", Value.ref l] }) fun _ R s =>
    (∃ o, s.heap.get? l = some o ∧ o.cls = .type "tuple" ∧ o.data = Data.seq items n) ∧
      R (Except.ok (Flow.ret (Value.ref (s.heap.push (tupIt l)).objs.size)))
        { s with heap := (s.heap.push (tupIt l)).push (enumO s.heap.objs.size) } := by
  refine Meets.of_wp fun prog w A R s h => ?_
  obtain ⟨hp, g, d, tk, os⟩ := s
  obtain ⟨⟨o, h1, h2, h3⟩, h⟩ := h
  have hsub := sub_enumerate
  unfold Builtin.«enumerate.__new__»
  wp_walk
  refine wpAny_stack_any fun st => wpAny_pure ?_
  have hT : ({ heap := hp, gens := g, drawn := d, toks := tk, os := os } : Shared).heap.IsTuple l items := ⟨o, h1, h2, n, h3⟩
  have fin : ∀ (it : Value), True := fun _ => trivial
  have go : ∀ {Q : Fin → Shared → Prop} {E : Value → Shared → Prop}, Q (.done (.ret (.ref (hp.push (tupIt l)).objs.size))) ⟨(hp.push (tupIt l)).push (enumO hp.objs.size), g, d, tk, os⟩ →
      wpAny (model prog w) A.in1 (do
          let __do_lift ← pyIter (.ref l)
          let __do_lift ← Builtin.SmallTypes.newRecord (Value.type "enumerate") (Builtin.SmallTypes.ownedTupleFields ++ [__do_lift, rawInt 0, Value.none, Value.none])
          ret __do_lift) Q E ⟨hp, g, d, tk, os⟩ := fun {Q E} q => by
    refine wpAny_bind (wpAny_pyIter_tuple hT ?_)
    wp_walk
    exact q
  split
  · simp only []
    split
    · refine wpAny_bind (wpAny_of_eq (show _ = pure (Value.ref l, none) from rfl) ?_)
      exact go ⟨_, rfl, h⟩
    · refine wpAny_bind (wpAny_of_eq (show _ = pure (Value.ref l, none) from rfl) ?_)
      exact go ⟨_, rfl, h⟩
  · simp only []
    split
    · refine wpAny_bind (wpAny_of_eq (show _ = pure (Value.ref l, none) from rfl) ?_)
      exact go ⟨_, rfl, h⟩
    · refine wpAny_bind (wpAny_of_eq (show _ = pure (Value.ref l, none) from rfl) ?_)
      exact go ⟨_, rfl, h⟩

theorem slotargs1 (it : Addr) : slotArgs "__next__" 0 { pos := [Value.ref it] } = pure (Value.ref it, []) := by
  first | rfl | (unfold slotArgs; simp [checkArgs])
section
variable {prog : Program} {w : World} {A : Around} {E : Value → Shared → Prop} {s : Shared} {it l : Addr} {i : Nat} {items : Array Value} {x : Value} {Q : Value → Shared → Prop}
theorem nextOf_tuple_item (hit : s.heap.IsTupleIter it l i) (hl : s.heap.IsTuple l items) (hx : items[i]? = some x)
    (hQ : ∀ h' : Heap, h'.IsTupleIter it l (i + 1) → Heap.SameBut it s.heap h' → Q x { s with heap := h' }) : wpAny (model prog w) A (Builtin.SmallTypes.nextOf (.ref it)) Q E s := by
  obtain ⟨o, ho, hc, hd⟩ := id hit
  obtain ⟨ol, hol, hcl, nl, hdl⟩ := hl
  refine wpAny_bind (wpAny_callSpecial?_slot hit.typeIs F.slot_tuple_iterator_next (wpAny_call_entry F.slot_tuple_iterator_next hit.typeIs F.entry_tuple_iterator_next ?_ (F.args_tuple_iterator_next_1 _)))
  refine wpAny_bind (wpAny_of_eq (slotargs1 it) ?_)
  refine wpAny_bind (wpAny_field ho hd rfl ?_)
  show wpAny _ _ (if _ then _ else _) _ _ _
  rw [if_neg (by exact Bool.false_ne_true)]
  refine wpAny_bind (wpAny_field ho hd rfl ?_)
  refine wpAny_bind (wpAny_seqItems hol hdl ?_)
  show wpAny _ _ (match items[i]? with | some x => _ | none => _) _ _ _
  rw [hx]
  refine wpAny_bind (wpAny_setField ho hd (by simp) (wpAny_pure ⟨x, rfl, wpAny_pure (hQ _ ⟨_, Heap.get?_update_self _ ho (Obj.isFreed_of_fields (Obj.data_mapFields hd _)), (Obj.cls_mapFields o _).trans hc, ?_⟩ (Heap.SameBut.update s.heap it _))⟩))
  rw [Obj.data_mapFields hd]
  rfl
theorem nextOf_tuple_end (hh : A.handled = none) (hit : s.heap.IsTupleIter it l i) (hl : s.heap.IsTuple l items) (hx : items[i]? = none)
    (hE : ∀ (h' : Heap) (e : Addr), Heap.ExtBut it s.heap h' → (∃ o, h'.get? e = some o ∧ o.cls = Value.type "StopIteration") → E (.ref e) { s with heap := h' }) : wpAny (model prog w) A (Builtin.SmallTypes.nextOf (.ref it)) Q E s := by
  obtain ⟨o, ho, hc, hd⟩ := id hit
  obtain ⟨ol, hol, hcl, nl, hdl⟩ := hl
  refine wpAny_bind (wpAny_callSpecial?_slot hit.typeIs F.slot_tuple_iterator_next (wpAny_call_entry F.slot_tuple_iterator_next hit.typeIs F.entry_tuple_iterator_next ?_ (F.args_tuple_iterator_next_1 _)))
  refine wpAny_bind (wpAny_of_eq (slotargs1 it) ?_)
  refine wpAny_bind (wpAny_field ho hd rfl ?_)
  show wpAny _ _ (if _ then _ else _) _ _ _
  rw [if_neg (by exact Bool.false_ne_true)]
  refine wpAny_bind (wpAny_field ho hd rfl ?_)
  refine wpAny_bind (wpAny_seqItems hol hdl ?_)
  show wpAny _ _ (match items[i]? with | some x => _ | none => _) _ _ _
  rw [hx]
  refine wpAny_bind (wpAny_rule (wpAny_bind (wpAny_setField ho hd (by simp) ?_)))
  unfold Builtin.SmallTypes.stopIteration
  wp_walk
  unfold raiseNew
  refine wpAny_bind (wpAny_handled ?_)
  rw [show A.in1.handled = none from hh]
  refine wpAny_throw ?_
  refine hE _ _ (fun b ob hb q => ?_) ⟨_, Heap.get?_push_size _ rfl, rfl⟩
  exact Heap.get?_push_of_some _ (Heap.get?_push_of_some _ ((Heap.get?_update_ne _ _ _ _ hb).trans q))
theorem draws_tup (hh : A.handled = none) (it l : Addr) (hne : l ≠ it) (items : Array Value) : Draws prog w A it [it, l] items.size (fun i v => items[i]? = some v) fun i h => h.IsTupleIter it l i ∧ h.IsTuple l items where
  live := fun _ _ st => by obtain ⟨o, ho, _⟩ := st.1; exact ⟨o, ho⟩
  frame := fun _ _ _ st hk => ⟨st.1.at fun o e => hk it (by simp) o e, by
    obtain ⟨o, h1, h2⟩ := st.2
    exact ⟨o, hk l (by simp) o h1, h2⟩⟩
  item := fun i s Q E hi st hQ => nextOf_tuple_item st.1 st.2 (Array.getElem?_eq_getElem hi) fun h' hit' hs' => hQ _ h' s.toks (Array.getElem?_eq_getElem hi) ⟨hit', by
    obtain ⟨o, h1, h2⟩ := st.2
    exact ⟨o, hs'.extBut _ _ hne h1, h2⟩⟩ hs'
  done := fun s Q E st hE => nextOf_tuple_end hh st.1 st.2 (Array.getElem?_eq_none (Nat.le_refl _)) hE
theorem draws_end (hh : A.handled = none) (it l : Addr) (hne : l ≠ it) (items : Array Value) (hx : items[i]? = none) : Draws prog w A it [it, l] 0 (fun _ _ => False) fun _ h => h.IsTupleIter it l i ∧ h.IsTuple l items where
  live := fun _ _ st => by obtain ⟨o, ho, _⟩ := st.1; exact ⟨o, ho⟩
  frame := fun _ _ _ st hk => ⟨st.1.at fun o e => hk it (by simp) o e, by
    obtain ⟨o, h1, h2⟩ := st.2
    exact ⟨o, hk l (by simp) o h1, h2⟩⟩
  item := fun i s Q E hi st hQ => absurd hi (Nat.not_lt_zero _)
  done := fun s Q E st hE => nextOf_tuple_end hh st.1 st.2 hx hE
theorem call_enumerate_tup {Q : Value → Shared → Prop} (hl : s.heap.IsTuple l items)
    (h : ∀ h' : Heap, IsEnum h' (s.heap.objs.size + 1) s.heap.objs.size 0 Value.none → h'.IsTupleIter s.heap.objs.size l 0 → h'.objs.size = s.heap.objs.size + 2 → (∀ (b : Addr) (o : Obj), s.heap.get? b = some o → h'.get? b = some o) → Q (.ref (s.heap.objs.size + 1)) { s with heap := h' }) :
    wpAny (model prog w) A (call (Value.type "enumerate") [Value.ref l]) Q E s := by
  obtain ⟨o, h1, h2, n, h3⟩ := hl
  refine callType_new F.called_enumerate (by decide) (F.typeCall_enumerate_1 _) (F.newCall_enumerate_1 _) (fun obj => F.args_object_init_2 obj _) F.entry_enumerate_new (meets_enumT l items n) ⟨⟨o, h1, h2, h3⟩, ?_⟩
  have hz := Heap.size_push s.heap (tupIt l)
  have he := Heap.get?_push_size (s.heap.push (tupIt l)) (o := enumO s.heap.objs.size) rfl
  rw [hz] at he
  show Shared.TypeIs _ _ _ ∧ _
  rw [hz]
  refine ⟨⟨_, he, rfl⟩, h _ he ⟨_, Heap.get?_push_of_some _ (Heap.get?_push_size s.heap rfl), rfl, rfl⟩ ?_ fun b o e => Heap.get?_push_of_some _ (Heap.get?_push_of_some _ e)⟩
  rw [Heap.size_push, hz]
end
def IteT (K : PySem.W.Frag) (a : Addr) : It :=
  { go := fun i H => ∃ xs x, SqT K H a xs ∧ xs[i]? = some x,
    yld := fun i H v H' => ∃ T x, v = V.ref T ∧ H T = none ∧ H' = upd H T (HO.tup [V.int i, x]) ∧ ∀ (xs : List V), SqT K H a xs → xs[i]? = some x,
    stop := fun i H => ∃ xs, SqT K H a xs ∧ xs.length ≤ i }
theorem turn_enumT {P : Program} {w : World} {K : PySem.W.Frag} {elts : List Expr} {kk : Nat} {tpos : Pos} (a e it : Addr) :
    Turn P w K (Expr.Tuple elts kk tpos) (IteT K a) [e, it] e fun i h => (∃ old, IsEnum h e it (i : Nat) old) ∧ h.IsTupleIter it a i ∧ e ≠ it where
  mem := by simp
  obj := fun i h st b hb => by
    obtain ⟨⟨old, he⟩, ⟨o, ho, hc, hd⟩, hne⟩ := st
    rcases List.mem_cons.mp hb with rfl | hb
    · exact ⟨_, he, fun v q => by cases q⟩
    · rcases List.mem_cons.mp hb with rfl | hb
      · exact ⟨o, ho, fun v q => by rw [hd] at q; cases q⟩
      · cases hb
  keep := fun i h h' st k => by
    obtain ⟨⟨old, he⟩, hit, hne⟩ := st
    exact ⟨⟨old, k e (by simp) _ he⟩, hit.at fun o q => k it (by simp) o q, hne⟩
  item := fun X hP hw hK hc i pins s σ H E I hf st hg => by
    subst hP hw hK
    obtain ⟨⟨old, he⟩, hit, hne⟩ := st
    obtain ⟨xs, x, hq, hx⟩ := hg
    obtain ⟨its, rv, p, hz⟩ := I.tuple hq
    obtain ⟨u, hu, ru⟩ := rv.get hx
    have p' : s.heap.IsTuple a its.toArray := p
    obtain ⟨oa, hoa, hca, na, hda⟩ := id p'
    have hel := Heap.lt_size he
    have hil : it < s.heap.objs.size := by obtain ⟨o, ho, _⟩ := id hit; exact Heap.lt_size ho
    have nai : a ≠ it := fun z => by
      obtain ⟨o, ho, hc, _⟩ := id hit
      rw [z, ho] at hoa
      cases hoa
      rw [hc] at hca
      exact absurd hca (by decide)
    have nae : e ≠ a := fun z => by
      rw [← z] at hoa
      rw [he] at hoa
      cases hoa
      exact absurd (show Value.type "enumerate" = Value.type "tuple" from hca) (by decide)
    have hi : i < its.toArray.size := by
      have := List.getElem?_eq_some_iff.mp hu
      obtain ⟨h, _⟩ := this
      simpa using h
    refine wpAny_pyNext_enum_itemD (draws_tup (A := X.A.in1) (I.ok.hd hc) it a nai its.toArray) he ⟨hit, p'⟩ hi hne (by simp [hne, nae]) fun x' h' tk hP ho St' hT hsz hk => ⟨_, rfl, wpAny_letOwnedTupleGo_enum ho fun h'' he' sb => ?_⟩
    have hxu : x' = u := by
      have : its[i]? = some x' := by simpa using hP
      rw [hu] at this
      cases this
      rfl
    subst hxu
    have hT2 : h''.get? s.heap.objs.size = some { cls := Value.type "tuple", data := Data.seq #[Value.int (i : Nat) tk, x'] } := (sb.right _ (Nat.ne_of_gt hel)).trans hT
    have new : ObjOk X.prog X.w (upd H s.heap.objs.size (HO.tup [V.int i, x])) h'' s.heap.objs.size (HO.tup [V.int i, x]) := ⟨by show 2 ≤ sizeLine; decide, [Value.int i tk, x'], .cons ⟨tk, rfl⟩ (.cons ru .nil), _, hT2, rfl, 0, rfl⟩
    have I1 := I.turnedNew (t' := tk + 1) (fun b ob hb q => (sb.right b fun z => hb (by simp [z])).trans (hk b ob (fun z => hb (by simp [z])) (fun z => hb (by simp [z])) q)) hf (Nat.le_refl _) new
    refine ⟨V.ref s.heap.objs.size, _, I1, rfl, ⟨_, x, rfl, I.hok.fresh (Nat.le_refl _), rfl, fun ys hy => ?_⟩, ⟨⟨x', ?_⟩, ?_, hne⟩, fun b hb => ?_⟩
    · rw [I.tuple_inj hy hq]
      exact hx
    · have e1 : ((i + 1 : Nat) : Int) = (i : Int) + 1 := by omega
      rw [e1]
      exact he'
    · exact St'.1.at fun o q => (sb.right it (Ne.symm hne)).trans q
    · have : b < s.heap.objs.size := by
        rcases List.mem_cons.mp hb with rfl | hb
        · exact hel
        · rcases List.mem_cons.mp hb with rfl | hb
          · exact hil
          · cases hb
      rw [upd_ne (Nat.ne_of_lt this)]
      exact (hf b hb).1
  done := fun X hP hw hK hc i pins s σ H E I hf st hg => by
    subst hP hw hK
    obtain ⟨⟨old, he⟩, hit, hne⟩ := st
    obtain ⟨xs, hq, hx⟩ := hg
    obtain ⟨its, rv, p, hz⟩ := I.tuple hq
    have p' : s.heap.IsTuple a its.toArray := p
    obtain ⟨oa, hoa, hca, na, hda⟩ := id p'
    obtain ⟨f0, f1, f2, f3, f4, f5⟩ := hf it (by simp)
    have nai : a ≠ it := fun z => by
      obtain ⟨o, ho, hc, _⟩ := id hit
      rw [z, ho] at hoa
      cases hoa
      rw [hc] at hca
      exact absurd hca (by decide)
    have hl := rv.length
    have hn : its.toArray[i]? = none := by
      rw [List.getElem?_toArray]
      exact List.getElem?_eq_none (by omega)
    exact wpAny_pyNext_enum_endD (draws_end (A := X.A.in1) (I.ok.hd hc) it a nai its.toArray hn) he ⟨hit, p'⟩ fun h' eb => ⟨rfl, I.turned (fun b o hb q => eb b o hb q) f0 f1 f3 f4 f5⟩
  self := fun A i s Q E st h => by
    obtain ⟨⟨old, he⟩, _⟩ := st
    exact wpAny_pyIter_enum he h
def iEnumT (K : PySem.W.Frag) (ta : TA) : TI := fun σ H R => ta σ H fun vs H1 => ∃ a xs, vs = [.ref a] ∧ SqT K H1 a xs ∧ R (IteT K a) H1
theorem pi_enumT {X : Cx} {e : Expr} {ta : TA} {p pos tpos : Pos} {elts : List Expr} {kk : Nat} (hg : Gl X "enumerate") (hm : X.mg "enumerate" = none) (ha : PA X [e] ta) (hs : starEach [e] X.env = [(false, eval e X.env)] := by rfl) :
    PI X (.Tuple elts kk tpos) (.Call (.Name "enumerate" p) [e] [] pos) (iEnumT X.K ta) := by
  refine ⟨fun pins s σ H R I h => ?_⟩
  refine PyProof.Rows.Call_ (ld_blt I hg hm PyProof.Rows.boot_enumerate (PyProof.Rows.callWith_type1 (thn (ha.run pos pins s σ H _ I h) fun us s1 hh => ?_) hs rfl) (by decide) (by decide)) rfl
  obtain ⟨vs, H1, I1, r1, a, xs, rfl, hq, q⟩ := hh
  cases r1 with
  | cons r rr =>
    cases rr
    cases r
    obtain ⟨its, rv, p', hz⟩ := I1.tuple hq
    refine call_enumerate_tup (items := its.toArray) p' fun h' he hit hsz hk => wpAny_pyIter_enum he ?_
    have I2 := I1.kept (t' := s1.toks) hk
    refine ⟨s1.heap.objs.size + 1, [s1.heap.objs.size + 1, s1.heap.objs.size], _, IteT X.K a, H1, rfl, I2, turn_enumT a (s1.heap.objs.size + 1) s1.heap.objs.size, ⟨⟨Value.none, he⟩, hit, Nat.succ_ne_self _⟩, fun b hb => ?_, q⟩
    have hle : s1.heap.objs.size ≤ b := by
      rcases List.mem_cons.mp hb with rfl | hb
      · exact Nat.le_add_right _ _
      · rcases List.mem_cons.mp hb with rfl | hb
        · exact Nat.le_refl _
        · cases hb
    exact I1.fpOk hle (I1.hok.fresh hle)
end L2

namespace Pd
open PySem L2 Evl
section
variable {K : PKt} {ec : EC} {W : WX} {te : TE} {tl : TA} {f : DE} {fl : DL} {F H : Hp} {a : Addr} {xs : List V} {ds : List PyData} {σ : L2.St} {ρ : Rho}
theorem itd_enumT (h : TupZ K.K F a xs) (hs : DqAll K F xs ds) : Itd K F (IteT K a) (enumD 0 ds) := by
  refine ⟨fun i H1 e hl => ⟨xs, TupZ.sq h e, by rw [hs.length, ← enumD_length ds 0]; exact hl⟩, fun i d H1 e hd => ?_, fun i d F1 H1 x H2 e1 e2 hd hy => ?_⟩
  · obtain ⟨e0, k1, _⟩ := enumD_get hd
    obtain ⟨v, h1, _⟩ := hs.get k1
    exact ⟨xs, v, TupZ.sq h e, h1⟩
  · obtain ⟨e0, k1, rfl⟩ := enumD_get hd
    obtain ⟨v, h1, h2⟩ := hs.get k1
    obtain ⟨T, y, rfl, hT, rfl, hy2⟩ := hy
    have := hy2 xs (TupZ.sq (TupZ.mono e1 h) e2)
    rw [h1] at this
    cases this
    refine .inr ⟨T, _, (fun ps z => by cases z), rfl, hT, rfl, .tup (.inl upd_same) (.cons ?_ (.cons ((h2.mono e1).mono (Ex.new (fresh_back e2 hT))) .nil))⟩
    rw [Nat.zero_add]
    exact .int _
def enumTI (fl : DL) : DL := fun ρ => bnd (fl ρ) fun as ρ1 => match as with | [.tuple ds] => some (.ok (enumD 0 ds) ρ1) | _ => none
theorem id_enumT (h : Ea K ec W tl fl) : Id K ec W (iEnumT K tl) (enumTI fl) := by
  intro F H σ ρ o rs e R q hf
  refine h.go rs e hf fun as ρ1 vs F1 H1 n1 dv e1 hf1 => ?_
  split at e1
  · cases e1
    cases dv with
    | cons d0 dr =>
      cases d0 with
      | tup ha hs =>
        cases dr with
        | nil => exact ⟨_, _, rfl, TupZ.sq ha (n1.rs.ex), q _ _ rfl _ F1 H1 n1 (itd_enumT ha hs)⟩
  · cases e1
/-- of a list or a tuple -/
def enumSI (fl : DL) : DL := fun ρ => bnd (fl ρ) fun as ρ1 => match as with | [.tuple ds] => some (.ok (enumD 0 ds) ρ1) | [.list ds] => some (.ok (enumD 0 ds) ρ1) | _ => none
theorem id_enumS (h : Ea K ec W tl fl) : Id K ec W (iOr (iEnum K tl) (iEnumT K tl)) (enumSI fl) := by
  refine id_or (id_enum h) (id_enumT h) fun ρ o e => ?_
  unfold enumSI at e
  unfold enumI enumTI
  cases ef : fl ρ with
  | none => rw [ef] at e; cases e
  | some x =>
    rw [ef] at e
    cases x with
    | ex c d ρ1 => exact .inl e
    | ok as ρ1 =>
      rw [bnd_ok] at e ⊢
      rw [bnd_ok]
      split at e
      · exact .inr e
      · exact .inl e
      · cases e
/-- enumerate of a name's own list -/
def enumOI (i : Nat) : DL := fun ρ => match ρ[i]? with
  | some (.own _ ds) => some (.ok (enumD 0 ds) (ρ.set i (.fro (.list ds))))
  | _ => none
/-! all, any, sum over lists -/
def boolsD : List PyData → Option (List Bool)
  | [] => some []
  | .bool b :: r => (boolsD r).map (b :: ·)
  | _ :: _ => none
def intsD : List PyData → Option (List Int)
  | [] => some []
  | .int i :: r => (intsD r).map (i :: ·)
  | _ :: _ => none
theorem bools_of : ∀ {xs : List V} {ds : List PyData} {bs : List Bool}, DqAll K F xs ds → boolsD ds = some bs → xs = bs.map V.bl
  | _, _, _, .nil, e => by cases e; rfl
  | _, _, _, .cons h t, e => by
    cases h with
    | bl b =>
      unfold boolsD at e
      cases e1 : boolsD _ with
      | none => rw [e1] at e; cases e
      | some r =>
        rw [e1] at e
        cases e
        rw [bools_of t e1]
        rfl
    | _ => cases e
theorem ints_of : ∀ {xs : List V} {ds : List PyData} {bs : List Int}, DqAll K F xs ds → intsD ds = some bs → xs = bs.map V.int
  | _, _, _, .nil, e => by cases e; rfl
  | _, _, _, .cons h t, e => by
    cases h with
    | int b =>
      unfold intsD at e
      cases e1 : intsD _ with
      | none => rw [e1] at e; cases e
      | some r =>
        rw [e1] at e
        cases e
        rw [ints_of t e1]
        rfl
    | _ => cases e
def allP : List PyData → Option PyData | [.list ds] => (boolsD ds).map fun bs => .bool (bs.all id) | _ => none
def anyP : List PyData → Option PyData | [.list ds] => (boolsD ds).map fun bs => .bool (bs.any id) | _ => none
def sumP : List PyData → Option PyData | [.list ds] => (intsD ds).map fun bs => .int bs.sum | _ => none
theorem cad_all : CaD K (rAll K) allP := by
  intro F H vs as d ex dv e Q q1 q2
  unfold allP at e
  split at e
  · rename_i ds
    obtain ⟨v, rfl, dx⟩ := one_of dv
    cases dx with
    | lst ha hs =>
      cases eb : boolsD ds with
      | none => rw [eb] at e; cases e
      | some bs =>
        rw [eb] at e
        cases e
        refine ⟨_, bs, rfl, ?_, q1 _ (.bl _)⟩
        rw [← bools_of hs eb]
        exact SqL.of (ex _ _ ha)
  · cases e
theorem cad_any : CaD K (rAny K) anyP := by
  intro F H vs as d ex dv e Q q1 q2
  unfold anyP at e
  split at e
  · rename_i ds
    obtain ⟨v, rfl, dx⟩ := one_of dv
    cases dx with
    | lst ha hs =>
      cases eb : boolsD ds with
      | none => rw [eb] at e; cases e
      | some bs =>
        rw [eb] at e
        cases e
        refine ⟨_, bs, rfl, ?_, q1 _ (.bl _)⟩
        rw [← bools_of hs eb]
        exact SqL.of (ex _ _ ha)
  · cases e
theorem cad_sum : CaD K (rSum K) sumP := by
  intro F H vs as d ex dv e Q q1 q2
  unfold sumP at e
  split at e
  · rename_i ds
    obtain ⟨v, rfl, dx⟩ := one_of dv
    cases dx with
    | lst ha hs =>
      cases eb : intsD ds with
      | none => rw [eb] at e; cases e
      | some bs =>
        rw [eb] at e
        cases e
        refine ⟨_, bs, rfl, ?_, q1 _ (.int _)⟩
        rw [← ints_of hs eb]
        exact SqL.of (ex _ _ ha)
  · cases e
end
end Pd

namespace Pd
open PySem L2 Evl
section
variable {K : PKt} {ec : EC} {W : WX} {te ta tb : TE} {tt : TT} {tl : TA} {f g : DE} {fl gl : DL} {fb : DB} {F H : Hp} {σ : L2.St} {ρ : Rho}
def yesB : DB := fun ρ => some (.ok true ρ)
theorem et_yes : Et K ec W tYes yesB := by
  intro F H σ ρ o rs e Q q hf
  cases e
  exact q true ρ rfl F H (Nx.refl rs)
/-! == and != also of texts -/
def rNeP (K : PySem.W.Frag) : R2 := fun x y H Q => rNe x y H Q ∨ rNeD K x y H Q
def rEqP (K : PySem.W.Frag) : R2 := fun x y H Q => rEq x y H Q ∨ rEqD K x y H Q
theorem op_neP {X : Cx} (hu : X.A.units + 64 < cLine) : OpR X (compareOp .NotEq) (rNeP X.K) := OpR.or op_ne (op_neD hu)
theorem op_eqP {X : Cx} (hu : X.A.units + 64 < cLine) : OpR X (compareOp .Eq) (rEqP X.K) := OpR.or op_eq (op_eqD hu)
def neS : Op := fun a b => match a, b with
  | .str x, .str y => some (.bool (!decide (x = y)))
  | a, b => neP a b
def eqS : Op := fun a b => match a, b with
  | .str x, .str y => some (.bool (decide (x = y)))
  | a, b => eqP a b
theorem opd_neS : OpD K (rNeP K) neS := by
  intro F H v w a b d ex dv dw e Q q1 q2
  unfold neS at e
  split at e
  · rename_i x y
    cases e
    cases dv; cases dw
    refine .inl ⟨rfl, ?_⟩
    have : (decide (V.str x = V.str y)) = decide (x = y) := by
      by_cases h : x = y
      · subst h; simp
      · rw [decide_eq_false h, decide_eq_false fun z => h (V.str.inj z)]
    rw [this]
    exact q1 _ (.bl _)
  · exact .inr (opd_ne F H v w _ _ d ex dv dw e Q q1 q2)
theorem opd_eqS : OpD K (rEqP K) eqS := by
  intro F H v w a b d ex dv dw e Q q1 q2
  unfold eqS at e
  split at e
  · rename_i x y
    cases e
    cases dv; cases dw
    refine .inl ⟨rfl, ?_⟩
    have : (decide (V.str x = V.str y)) = decide (x = y) := by
      by_cases h : x = y
      · subst h; simp
      · rw [decide_eq_false h, decide_eq_false fun z => h (V.str.inj z)]
    rw [this]
    exact q1 _ (.bl _)
  · exact .inr (opd_eq F H v w _ _ d ex dv dw e Q q1 q2)
/-! new lists -/
def OpN (K : PKt) (r : R2) (op : Op) : Prop := ∀ (F H : Hp) (v w : V) (a b : PyData) (ds : List PyData), Ex F H → Dq K F v a → Dq K F w b → op a b = some (.list ds) → ∀ Q : VK,
  (∀ p vs, H p = none → DqAll K F vs ds → Q (.ref p) (upd H p (.lst vs))) → r v w H Q
def opN (op : Op) (f g : DE) : DL := fun ρ => bnd (f ρ) fun a ρ1 => bnd (g ρ1) fun b ρ2 => match op a b with
  | some (.list ds) => some (.ok ds ρ2)
  | _ => none
theorem eo_op {r : R2} {op : Op} (hr : OpN K r op) (ha : Ed K ec W ta f) (hb : Ed K ec W tb g) : Eo K ec W (tOp r ta tb) (opN op f g) := by
  intro F H σ ρ o rs e Q q hf
  refine ha.go rs e hf fun a ρ1 v F1 H1 n1 dv e1 hf1 => ?_
  refine hb.go n1.rs e1 hf1 fun b ρ2 w F2 H2 n2 dw e2 hf2 => ?_
  split at e2
  · rename_i ds eo
    cases e2
    refine hr F2 H2 v w a b ds n2.rs.ex (dv.mono n2.go.fr) dw eo Q fun p vs hp dvs => ?_
    have n := n1.trans n2
    exact q ds ρ2 rfl p vs F2 _ (n.trans (n2.rs.newOwn hp fun ps z => by cases z)) (fun z => Th.no hp (n.thr p z)) (fresh_back n2.rs.ex hp) upd_same dvs
  · cases e2
theorem opn_add : OpN K (rAddP K) addP := by
  intro F H v w a b ds ex dv dw e Q q
  unfold addP at e
  split at e
  · cases e
  · split at e
    · rename_i hz
      cases e
      cases dv with
      | lst ha hs =>
        cases dw with
        | lst hb ht => exact .inr (.inl ⟨_, _, _, _, rfl, rfl, ex _ _ ha, ex _ _ hb, by rw [hs.length, ht.length]; exact sz_of hz, fun p hp => q p _ hp (hs.append ht)⟩)
    · cases e
  · split at e <;> cases e
  · split at e <;> cases e
  · cases e
theorem opn_mul : OpN K (rMulP K) mulP := by
  intro F H v w a b ds ex dv dw e Q q
  unfold mulP at e
  split at e
  · split at e <;> cases e
  · split at e
    · rename_i hz
      cases e
      cases dw
      cases dv with
      | lst ha hs => exact .inr (.inl ⟨_, _, _, rfl, rfl, ex _ _ ha, by omega, by omega, by rw [hs.length]; exact sz_of hz.2.2, fun p hp => q p _ hp (hs.rep _)⟩)
    · cases e
  · split at e <;> cases e
  · cases e
def CaN (K : PKt) (r : List V → Hp → VK → Prop) (op : List PyData → Option PyData) : Prop := ∀ (F H : Hp) (vs : List V) (as ds : List PyData), Ex F H → DqAll K F vs as → op as = some (.list ds) → ∀ Q : VK, (∀ p ws, H p = none → DqAll K F ws ds → Q (.ref p) (upd H p (.lst ws))) → r vs H Q
def caN (op : List PyData → Option PyData) (fl : DL) : DL := fun ρ => bnd (fl ρ) fun as ρ1 => match op as with
  | some (.list ds) => some (.ok ds ρ1)
  | _ => none
theorem eo_ca {r : List V → Hp → VK → Prop} {op : List PyData → Option PyData} (hr : CaN K r op) (ha : Ea K ec W tl fl) : Eo K ec W (tCB r tl) (caN op fl) := by
  intro F H σ ρ o rs e Q q hf
  refine ha.go rs e hf fun as ρ1 vs F1 H1 n1 dv e1 hf1 => ?_
  split at e1
  · rename_i ds eo
    cases e1
    refine hr F1 H1 vs as ds n1.rs.ex dv eo Q fun p ws hp dws => ?_
    exact q ds ρ1 rfl p ws F1 _ (n1.trans (n1.rs.newOwn hp fun ps z => by cases z)) (fun z => Th.no hp (n1.thr p z)) (fresh_back n1.rs.ex hp) upd_same dws
  · cases e1
theorem can_list : CaN K (fun xs H Q => ∃ p ys, xs = [V.ref p] ∧ (SqL K H p ys ∨ SqT K H p ys) ∧ ∀ (l : Addr), H l = none → Q (V.ref l) (upd H l (HO.lst ys))) listP := by
  intro F H vs as ds ex dv e Q q
  unfold listP at e
  split at e
  · cases e
    obtain ⟨v, rfl, dx⟩ := one_of dv
    cases dx with
    | lst ha hs => exact ⟨_, _, rfl, .inl (SqL.of (ex _ _ ha)), fun p hp => q p _ hp hs⟩
  · cases e
    obtain ⟨v, rfl, dx⟩ := one_of dv
    cases dx with
    | tup ha hs => exact ⟨_, _, rfl, .inr (TupZ.sq ha (ex)), fun p hp => q p _ hp hs⟩
  · cases e
/-! word errors -/
theorem sd_raiseW {c : Nat} (hc : ec.fld c = "word") (h : Ed K ec W te f) : Sd K ec W (tRaiseW (ec.C c) W (tCons te tNil)) (raiseS c f) := by
  intro F H σ ρ oc rs e D hp
  refine h.goS rs e hp fun d ρ1 v F1 H1 n dv e1 hp1 => ?_
  cases e1
  refine ⟨v, rfl, fun a ha => ?_⟩
  have x := xr_new (ec := ec) (c := c) n.rs dv ha
  rw [hc] at x
  exact hp1 _ _ σ F1 _ x.1.sx x.2
end
end Pd

namespace Pd
open PySem L2 Evl
theorem units65 {k : Nat} {A : Around} (r : Room k A) : A.units + 65 < cLine := by
  have := r.un
  omega
/-- the errors: all but number w keep `at` -/
abbrev ecOf (C : Nat → Addr) (w : Nat) : EC := ⟨C, fun c => if c = w then "word" else "at"⟩
def rng1M (fl : DL) : DL := fun ρ => bnd (fl ρ) fun as ρ1 => match as with | [.int j] => if -1000000 < j ∧ j < 1000000 then some (.ok (rangeD 0 j.toNat) ρ1) else none | _ => none
section
variable {K : PKt} {ec : EC} {W : WX} {tl : TA} {fl : DL} {te : TE} {f : DE} {is : List Nat} {g : TG} {tg : DG}
theorem id_rng1M (h : Ea K ec W tl fl) : Id K ec W (iRng1 tl) (rng1M fl) := id_rng1 h
def asgG (tg : DG) (f : DE) : DS := fun ρ => bndS (f ρ) fun d ρ1 => (tg d ρ1).map .nx
theorem sd_asgG (h : Ed K ec W te f) (hg : Gd K is g tg) : Sd K ec W (tAsg te g) (asgG tg f) := by
  intro F H σ ρ oc rs e D hp
  refine h.goS rs e hp fun d ρ1 v F1 H1 n dv e1 hp1 => ?_
  cases et : tg d ρ1 with
  | none => rw [et] at e1; cases e1
  | some ρ2 =>
    rw [et] at e1
    cases e1
    exact hg F1 H1 σ ρ1 v d ρ2 n.rs dv et _ fun σ' s _ => hp1 σ' F1 H1 s
end
end Pd

/-! the rules that speak of X.K, with K told -/
namespace Pd
open PySem L2 Evl
section
variable {X : Cx} {f : Value → Value → Sem Value}
theorem op_addK (K : PySem.W.Frag) (h : X.K = K) : OpR X (binaryOp .Add) (rAddP K) := h ▸ op_addP
theorem op_mulK (K : PySem.W.Frag) (h : X.K = K) : OpR X (binaryOp .Mult) (rMulP K) := h ▸ op_mulP
theorem op_inK (K : PySem.W.Frag) (h : X.K = K) (hu : X.A.units + 65 < cLine) : OpR X (compareOp .In) (rInP K) := h ▸ op_inP hu
theorem op_notInK (K : PySem.W.Frag) (h : X.K = K) (hu : X.A.units + 65 < cLine) : OpR X (compareOp .NotIn) (rNotInP K) := h ▸ op_notInP hu
theorem op_eqK (K : PySem.W.Frag) (h : X.K = K) (hu : X.A.units + 64 < cLine) : OpR X (compareOp .Eq) (rEqP K) := h ▸ op_eqP hu
theorem op_neK (K : PySem.W.Frag) (h : X.K = K) (hu : X.A.units + 64 < cLine) : OpR X (compareOp .NotEq) (rNeP K) := h ▸ op_neP hu
theorem ix_K (K : PySem.W.Frag) (h : X.K = K) : IxR X (rIxP K) := h ▸ ix_P
theorem sl_K (K : PySem.W.Frag) (h : X.K = K) : SlR X (rSlP K) := h ▸ sl_P
theorem call_isi1K (K : PySem.W.Frag) (h : X.K = K) : CallR X (.builtin "isinstance") (rIsi K) := h ▸ call_isi
theorem call_isi2K (K : PySem.W.Frag) (h : X.K = K) : CallR X (.builtin "isinstance") (rIsiT K) := h ▸ call_isiT
theorem call_lenK (K : PySem.W.Frag) (h : X.K = K) : CallR X (.builtin "len") (fun xs H Q => ∃ p ys, xs = [V.ref p] ∧ (SqL K H p ys ∨ SqT K H p ys) ∧ Q (V.int (ys.length : Nat)) H) := h ▸ call_len_seq
theorem call_tupleK (K : PySem.W.Frag) (h : X.K = K) : CallR X (.type "tuple") (fun xs H Q => ∃ p ys, xs = [V.ref p] ∧ ((SqL K H p ys ∧ ∀ (l : Addr), H l = none → Q (V.ref l) (upd H l (HO.tup ys))) ∨ SqT K H p ys ∧ Q (V.ref p) H)) := h ▸ call_tuple_of
theorem call_listK (K : PySem.W.Frag) (h : X.K = K) : CallR X (.type "list") (fun xs H Q => ∃ p ys, xs = [V.ref p] ∧ (SqL K H p ys ∨ SqT K H p ys) ∧ ∀ (l : Addr), H l = none → Q (V.ref l) (upd H l (HO.lst ys))) := h ▸ call_list_of
theorem cr_allK (K : PySem.W.Frag) (h : X.K = K) (hc : X.calm = true) : CallR X (.builtin "all") (rAll K) := h ▸ cr_all hc
theorem cr_anyK (K : PySem.W.Frag) (h : X.K = K) (hc : X.calm = true) : CallR X (.builtin "any") (rAny K) := h ▸ cr_any hc
theorem cr_sumK (K : PySem.W.Frag) (h : X.K = K) (hc : X.calm = true) : CallR X (.builtin "sum") (rSum K) := h ▸ cr_sum hc
variable {tg l e : Expr} {tl te : TE} {ta : TA} {p pos tpos : Pos} {elts es : List Expr} {kk k n : Nat} {t : TGs}
theorem pi_seqK (K : PySem.W.Frag) (h : X.K = K) (hl : PE X l tl) : PI X tg l (iOr (iList K tl) (iTup K tl)) := h ▸ pi_or (pi_list hl) (pi_tup hl)
theorem pi_enumK (K : PySem.W.Frag) (h : X.K = K) (hg : Gl X "enumerate") (hm : X.mg "enumerate" = none) (ha : PA X [e] ta) (hs : starEach [e] X.env = [(false, eval e X.env)] := by rfl) :
    PI X (.Tuple elts kk tpos) (.Call (.Name "enumerate" p) [e] [] pos) (iOr (iEnum K ta) (iEnumT K ta)) := h ▸ pi_or (pi_enum hg hm ha hs) (pi_enumT hg hm ha hs)
theorem pt_truK (K : PySem.W.Frag) (h : X.K = K) (he : PE X e te) (hi : ∀ whole : Sem Value, PySem.isTrue e X.env whole = (do let v ← whole; standAt e.pos; holding [v] (truthy v)) := by intro _; rfl) : PT X e (tTru K te) := h ▸ pt_tru he hi
theorem pg_tupK (K : PySem.W.Frag) (h : X.K = K) (hc : X.calm = true) (hs : PGs X es t) (h1 : (assignEach es X.env).length = n := by rfl) (h2 : List.findIdx? (fun x => x.fst) (assignEach es X.env) = none := by rfl) : PG X (.Tuple es k pos) (gTup K n t) := h ▸ pg_tup hc hs h1 h2
theorem pg_unlK (K : PySem.W.Frag) (h : X.K = K) (hc : X.calm = true) (hs : PGs X es t) (h1 : (assignEach es X.env).length = n := by rfl) (h2 : List.findIdx? (fun x => x.fst) (assignEach es X.env) = none := by rfl) : PG X (.Tuple es k pos) (gUnl K n t) := h ▸ pg_unl hc hs h1 h2
end
end Pd

namespace Pd
open PySem L2 Evl
def rRepr (K : PySem.W.Frag) : List V → Hp → VK → Prop := fun xs H Q => ∃ (a : Addr) (d : PyData), xs = [V.ref a] ∧ Dp K H (.ref a) d ∧ d.showable = true ∧ d.hasDict = false ∧ d.depth ≤ 60 ∧ d.shown.length ≤ sizeLine ∧ Q (.str d.shown) H
theorem call_reprK {X : Cx} (K : PySem.W.Frag) (h : X.K = K) (hg : X.A.guards = some []) (hu : X.A.units + 65 < cLine) : CallR X (.builtin "repr") (rRepr K) := by
  subst h
  intro pins s σ H xs us Q I r hh
  obtain ⟨a, d, rfl, hd, h1, h2, h3, h4, q⟩ := hh
  cases r with
  | cons ra rr =>
    cases rr
    cases ra
    obtain ⟨as, rd⟩ := Dp.reads I d (.ref a) (.ref a) hd rfl
    refine repr_of_reads' rd h1 (fun z => by rw [h2] at z; cases z) hg (by omega) (fun _ _ e => e) (fun h' u tk hk => ⟨.str d.shown, H, I.kept hk, ⟨u, rfl⟩, q⟩) h4
def reprP : List PyData → Option PyData
  | [d] => match d with
    | .tuple ds => if PyData.showable (.tuple ds) = true ∧ PyData.hasDict (.tuple ds) = false ∧ PyData.canLay0 (.tuple ds) = true ∧ PyData.depth (.tuple ds) ≤ 60 ∧ (PyData.shown (.tuple ds)).length ≤ 1000000 then some (.str (PyData.shown (.tuple ds))) else none
    | .list ds => if PyData.showable (.list ds) = true ∧ PyData.hasDict (.list ds) = false ∧ PyData.canLay0 (.list ds) = true ∧ PyData.depth (.list ds) ≤ 60 ∧ (PyData.shown (.list ds)).length ≤ 1000000 then some (.str (PyData.shown (.list ds))) else none
    | _ => none
  | _ => none
section
variable {K : PKt}
theorem cad_repr : CaD K (rRepr K) reprP := by
  have z : (1000000 : Nat) ≤ sizeLine := by decide
  intro F H vs as d ex dv e Q q1 q2
  unfold reprP at e
  split at e
  · split at e
    · split at e
      · rename_i hz
        cases e
        obtain ⟨v, rfl, dx⟩ := one_of dv
        cases dx with
        | tup ha hs => exact ⟨_, _, rfl, (Dq.mono ex (.tup ha hs)).dp hz.2.2.1, hz.1, hz.2.1, hz.2.2.2.1, Nat.le_trans hz.2.2.2.2 z, q1 _ (.str _)⟩
      · cases e
    · split at e
      · rename_i hz
        cases e
        obtain ⟨v, rfl, dx⟩ := one_of dv
        cases dx with
        | lst ha hs => exact ⟨_, _, rfl, (Dq.mono ex (.lst ha hs)).dp hz.2.2.1, hz.1, hz.2.1, hz.2.2.2.1, Nat.le_trans hz.2.2.2.2 z, q1 _ (.str _)⟩
      · cases e
    · cases e
  · cases e
end
end Pd
namespace Pd
open PySem L2 Evl
/-! ### the law's own def -/
section
variable {K : PKt} {H : Hp} {a : Addr} {ns : List Int}
/-- the script, as data -/
abbrev scrD (ns : List Int) : PyData := .dict [(.none, .list (ns.map PyData.int))]
theorem ints_dq {F : Hp} : ∀ ns : List Int, DqAll K F (ns.map V.int) (ns.map PyData.int)
  | [] => .nil
  | _ :: r => .cons (.int _) (ints_dq r)
theorem script_sp {f : FnQ} (tb : LamX.Tabs K.T H) (hS : SqL K.K H a (ns.map V.int)) (e : f [scrD ns] = some (.bool true)) : spQ K 1 f [V.ref a] H (fun v _ => v = V.bl true) fun _ _ _ => False := by
  have main : ∀ F : Hp, Nt F → Ex F H → SqL K.K F a (ns.map V.int) → spQ K 1 f [V.ref a] H (fun v _ => v = V.bl true) fun _ _ _ => False := fun F nt ex hF =>
    ⟨tb, F, [scrD ns], .bool true, nt, ex, .cons (.scr hF (ints_dq ns)) .nil, rfl, e, fun v F' H' g dv => dq_bool dv⟩
  have one : ∀ o : HO, (∀ ps, o ≠ .tbl ps) → H a = some o → SqL K.K (upd (fun _ => none) a o) a (ns.map V.int) → spQ K 1 f [V.ref a] H (fun v _ => v = V.bl true) fun _ _ _ => False := fun o nt h hF =>
    main (upd (fun _ => none) a o) (Nt.upd (fun _ _ z => by cases z) nt) (fun b u hb => by
      by_cases e : b = a
      · subst e; rw [upd_same] at hb; rw [h]; exact hb
      · rw [upd_ne e] at hb; cases hb) hF
  rcases hS with (h | ⟨u, h⟩) | h
  · exact one _ (fun ps z => by cases z) h (.inl (.inl upd_same))
  · exact one _ (fun ps z => by cases z) h (.inl (.inr ⟨u, upd_same⟩))
  · exact main (fun _ => none) (fun _ _ z => by cases z) (fun _ _ z => by cases z) (.inr h)
end
end Pd
namespace Pd
open PySem L2 Evl
/-- of n errors the j-th alone is hit -/
def hitE (n j : Nat) : Nat → Option Bool := fun c => if c < n then some (decide (c = j)) else none
theorem hitE_exm {K : PySem.W.Frag} {C : Nat → Addr} {n j : Nat} (hj : j < n) (h : ∀ i j, i < n → j < n → PySem.W.exmOne K (.ref (C i)) (.ref (C j)) = some (decide (i = j))) (c : Nat) (b : Bool) (e : hitE n j c = some b) : PySem.W.exmOne K (.ref (C c)) (.ref (C j)) = some b := by
  unfold hitE at e
  split at e
  · rename_i hc
    cases e
    exact h c j hc hj
  · cases e
theorem hitE_true {n j c : Nat} (e : hitE n j c = some true) : c = j := by
  unfold hitE at e
  split at e
  · exact of_decide_eq_true (Option.some.inj e)
  · cases e
end Pd
namespace L2
open PySem PySem.Spec PyProof.Rows
theorem pe_told {X : Cx} {T : List (Addr × Str)} {st : Stmt} {x a : Str} {g c P : Addr} {fd : FuncData} {Ng : List Str} {TT : (XK → Hp → VK → Prop) → Hp → VK → Prop} {k : Nat} {params : Arguments} {body : Expr} {scope : Scope} {lpos pos p : Pos} {t : XK → TE}
    (F : Fun X.K x x st g fd) (hm : X.mg x = some (.ref g)) (b : Binds X.K fd [a] []) (S : FnScope Ng [a] (defScope st)) (h0 : Ng[0]? = some a) (hv : Vis (defScope st) a) (hG : ∀ cdg, LamX.GivesTo X Ng x (defScope st) g cdg (defBody st) a (X.env.qual ++ "<lambda>") TT)
    (tb : LamX.TabB X.base X.mg c P) (hc : X.env.code = .ref c) (hT : (P, X.env.qual ++ ("<lambda>" : Str)) ∈ T) (hu : ∀ p ∈ T, p.1 = P → p.2 = X.env.qual ++ ("<lambda>" : Str)) (hr : Room (k + 2) X.A) (ls : LamX.LamS X.env.scope scope) (hd : defaultsOf params X.env = ([], []))
    (hba : ∀ (q : Str) (cl : List (Str × Addr)) (pm cv ctv : Value), bindArgs (PySem.W.kla_fn "<lambda>" q params body scope cl pm cv ctv) {} = pure [])
    (hb : ∀ (A : Around) (outer : List Env) (s : Shared) (H : Hp) (E : XK) (f c' : Addr), Room k (A.deeper (LamX.lamEnv X scope s.heap.objs.size f c')) → PE (LamX.lamCx X A outer s H E scope f c') body (t E)) (hg : Gl X x := by rfl)
    (d1 : (x == ("__debug__" : Str)) = false := by decide) (d2 : (a == ("__debug__" : Str)) = false := by decide) (d3 : (a == ("__classdict__" : Str)) = false := by decide) :
    PE X (.Call (.Name x p) [.Lambda params body scope lpos] [] pos) (LamX.tLam T TT t) := by
  obtain ⟨oc, od, kV, doc, pm, an, cdv, ct, osl, rfl, lk, hcd⟩ := F.ex
  exact LamX.pe_lamcall hg hm F.kp lk hcd b S h0 hv (hG cdv) tb hc hT hu hr ls hd hba hb d1 d2 d3
end L2

namespace Pd
open PySem L2 Evl
theorem takesF {X : Cx} : Takes X fun _ _ _ _ => False := fun u s' z => by
  obtain ⟨_, _, _, _, _, _, _, _, _, _, _, _, _, _, _, _, w⟩ := z
  exact w.elim
section
variable {K : PKt} {ec : EC} {W : WX} {ta te : TE} {f : DE} {F H : Hp}
theorem rg_dq {lo hi : Int} : DqAll K F (rgV lo hi) (rangeD lo (hi - lo).toNat) := by
  unfold rgV rangeD
  generalize (List.range (hi - lo).toNat) = l
  induction l with
  | nil => exact .nil
  | cons i r ih => exact .cons (.int _) ih
def lrgM (f : DE) : DL := fun ρ => bnd (f ρ) fun d ρ1 => match d with | .int n => if 0 ≤ n ∧ n ≤ 100000 then some (.ok (rangeD 0 n.toNat) ρ1) else none | _ => none
theorem eo_listRg (ha : Ed K ec W ta f) : Eo K ec W (tLstRg (tRg1 ta)) (lrgM f) := by
  intro F H σ ρ o rs e Q q hf
  refine ha.go rs e hf fun d ρ1 v F1 H1 n1 dv e1 hf1 => ?_
  cases dv with
  | int n =>
    have e2 : (if 0 ≤ n ∧ n ≤ 100000 then some (.ok (rangeD 0 n.toNat) ρ1) else none) = some o := e1
    split at e2
    · rename_i hz
      cases e2
      refine ⟨n, rfl, ?_, fun p hp => ?_⟩
      · first | exact ⟨by omega, by omega, by omega, by omega⟩ | (unfold RgOk; omega) | trace_state
      · have := @rg_dq K F1 0 n
        rw [Int.sub_zero] at this
        exact q _ _ rfl p _ F1 _ (n1.trans (n1.rs.newOwn hp fun ps z => by cases z)) (fun z => Th.no hp (n1.thr p z)) (fresh_back n1.rs.ex hp) upd_same this
    · cases e2
  | _ => cases e1
end
end Pd

namespace L2
open PySem PySem.Spec PyProof.Rows
theorem extend_any {l b : Addr} {items items2 : Array Value} {n n2 : Nat} {T : String} {o : Obj} (hT : T = "list" ∨ T = "tuple") (hc : o.cls = .type T) (hd : o.data = .seq items2 n2) (hlong : ¬ (!items.isEmpty && Builtin.List.listTooLong (items.size + items2.size)) = true) (hs1 : items.size ≤ sizeLine) (hs2 : (items ++ items2).size ≤ sizeLine + 1) :
    Meets (Builtin.«list.extend» ⟨[.ref l, .ref b], []⟩) (fun _ R s => s.heap.get? l = some { cls := .type "list", dict := none, data := .seq items n, slots := #[] } ∧ s.heap.get? b = some o ∧ R (.ok (.ret Value.none)) { s with heap := s.heap.update l (Obj.mapSeq fun x => x ++ items2), toks := s.toks }) := by
  intro prog w A R s h
  obtain ⟨hS, ho, hR⟩ := h
  show wpAny _ A.in1 (Builtin.List.listExtendWith (.ref l) (.ref b) .none) _ _ s
  unfold Builtin.List.listExtendWith
  refine wpAny_bind (wpAny_typeOf ⟨o, ho, hc⟩ ?_)
  have h1 : (Builtin.List.listSameRef (.ref l) (.ref b) || Value.type T == Value.type "list" || Value.type T == Value.type "tuple") = true := by
    rcases hT with rfl | rfl <;> simp
  simp only [h1, if_true]
  refine wpAny_bind ?_
  unfold Builtin.List.listItems
  refine wpAny_bind (wpAny_seqItems ho hd (wpAny_pure ?_))
  refine wpAny_bind ?_
  refine wpAny_bind (wpAny_seqItems hS rfl (wpAny_pure ?_))
  rw [if_neg hlong]
  show wpAny _ A.in1 (updateSeq l (· ++ items2) >>= fun _ => ret .none) _ _ s
  refine wpAny_bind (wpAny_updateSeq hS rfl (hz := hs1) (_hz' := hs2) ?_)
  exact wpAny_pure hR
def rExtendS (K : PySem.W.Frag) : V → List V → Hp → VK → Prop := fun x vs H Q => ∃ l b xs zs, x = .ref l ∧ vs = [.ref b] ∧ H l = some (.lst xs) ∧ (SqL K H b zs ∨ SqT K H b zs) ∧ xs.length + zs.length ≤ sizeLine ∧ Q .non (upd H l (.lst (xs ++ zs)))
theorem mt_extendS {X : Cx} (K : PySem.W.Frag) (hK : X.K = K) : MtM X "list.extend" (rExtendS K) := by
  subst hK
  intro pins s σ H x vs v us Q I rx rv h
  obtain ⟨l, b, xs, zs, rfl, rfl, hH, hB, hz, q⟩ := h
  cases rx
  obtain ⟨u, rfl, ru⟩ := rv.one
  cases ru
  obtain ⟨z, its, n, r, hl, e⟩ := I.lstM hH
  have main : ∀ (its2 : List Value) (o : Obj) (n2 : Nat) (T : String), (T = "list" ∨ T = "tuple") → s.heap.get? b = some o → o.cls = .type T → o.data = .seq its2.toArray n2 → Vals zs its2 → wpAny (model X.prog X.w) X.A (call (.builtin "list.extend") [.ref l, .ref b]) (EP X pins σ Q) X.xe s := by
    intro its2 o n2 T hT e2 hc hd r2
    have hl2 : zs.length = its2.length := r2.length
    have hsz : its.toArray.size + its2.toArray.size ≤ sizeLine := by rw [List.size_toArray, List.size_toArray]; omega
    have hlong : ¬ (!its.toArray.isEmpty && Builtin.List.listTooLong (its.toArray.size + its2.toArray.size)) = true := by
      rw [notLongL hsz, Bool.and_false]
      exact Bool.false_ne_true
    refine call_meets F.slot_list_extend ⟨_, e, rfl⟩ F.entry_list_extend (F.args_list_extend_2 _ _)
      (extend_any hT hc hd hlong (by rw [List.size_toArray]; omega) (by rw [Array.size_append]; omega)) ⟨e, e2, ?_⟩
    refine ⟨.non, _, I.lset (its' := its ++ its2) hH e (by simp) (r.append r2) ?_, rfl, q⟩
    rw [List.length_append]
    omega
  rcases hB with hB | hB
  · obtain ⟨its2, r2, pl, _⟩ := I.list hB
    obtain ⟨o, e2, hc, n2, hd⟩ := pl.isList
    exact main its2 o n2 "list" (.inl rfl) e2 hc hd r2
  · obtain ⟨its2, r2, pl, _⟩ := I.tuple hB
    obtain ⟨o, e2, hc, n2, hd⟩ := (show s.heap.IsTuple b its2.toArray from pl)
    exact main its2 o n2 "tuple" (.inr rfl) e2 hc hd r2
end L2
namespace Pd
open PySem L2 Evl RZ
section
variable {K : PKt} {ec : EC} {W : WX} {te : TE} {tl : TA} {f : DE} {fl : DL} {F H : Hp} {a b : Addr} {xs ys : List V} {ds es : List PyData} {ta : TA} {σ : L2.St} {ρ : Rho} {D : Ends}
def seqD : PyData → Option (List PyData)
  | .list ds => some ds
  | .tuple ds => some ds
  | _ => none
/-- a name's own list made longer by data -/
def extS (i : Nat) (f : DE) : DS := fun ρ => match ρ[i]? with
  | some (.own _ _) => bndS (f ρ) fun d ρ1 => match ρ1[i]? with
    | some (.own t ds) => match seqD d with
      | some es => if ds.length + es.length ≤ 100000 then some (.nx (ρ1.set i (.own t (ds ++ es)))) else none
      | _ => none
    | _ => none
  | _ => none
theorem sd_ext {i : Nat} (h : Ed K ec W te f) : Sd K ec W (tDrop (tBM K "list" (rExtendS K) (tVar i) (tCons te tNil))) (extS i f) := by
  intro F H σ ρ oc rs e D hp
  unfold extS at e
  split at e
  · rename_i t0 ds0 h0
    obtain ⟨a, vs, h1, h2, h3, h4⟩ := rs.own i t0 ds0 h0
    refine ⟨.ref a, h1, .inl ⟨rfl, _, SqL.of h3⟩, ?_⟩
    refine h.goS rs e hp fun d ρ1 v F1 H1 n dv e1 hp1 => ?_
    split at e1
    · rename_i t ds hh
      split at e1
      · rename_i es hseq
        split at e1
        · rename_i hz
          cases e1
          obtain ⟨b, ws, g1, g2, g3, g4⟩ := n.rs.own i t ds hh
          rw [h1] at g1
          cases g1
          have key : ∃ (c : Addr) (zs : List V), v = .ref c ∧ (SqL K.K H1 c zs ∨ SqT K.K H1 c zs) ∧ DqAll K F1 zs es := by
            cases dv with
            | lst ha hs => cases hseq; exact ⟨_, _, rfl, .inl (SqL.of (n.rs.ex _ _ ha)), hs⟩
            | tup ha hs => cases hseq; exact ⟨_, _, rfl, .inr (ha.sq n.rs.ex), hs⟩
            | _ => cases hseq
          obtain ⟨c, zs, rfl, hc, hs⟩ := key
          exact ⟨a, c, ws, zs, rfl, rfl, g3, hc, by rw [g4.length, hs.length]; exact sz_of hz, hp1 _ F1 _ (n.rs.mut hh h1 (g4.append hs)).sx⟩
        · cases e1
      · cases e1
    · cases e1
  · cases e
theorem Ea.goS (hh : Ea K ec W ta fl) (rs : RS K F H σ ρ) {k : List PyData → Rho → Option Oc} {oc : Oc} (e : bndS (fl ρ) k = some oc) (hp : Pst K ec W σ ρ F H D oc) {Q : List V → Hp → Prop}
    (hk : ∀ ds ρ1 vs F1 H1, Nx K σ ρ ρ1 F H F1 H1 → DqAll K F1 vs ds → k ds ρ1 = some oc → Pst K ec W σ ρ1 F1 H1 D oc → Q vs H1) : ta σ H Q := by
  unfold bndS at e
  cases ef : fl ρ with
  | none => rw [ef] at e; cases e
  | some x =>
    rw [ef] at e
    cases x with
    | ok d ρ1 => exact hh F H σ ρ _ rs ef Q (fun d' ρ' e' vs F' H' n dv => by cases e'; exact hk d ρ1 vs F' H' n dv e (hp.step n.sx)) Fail.ok
    | ex c d ρ1 =>
      cases e
      exact hh F H σ ρ _ rs ef Q (fun d' ρ' e' => by cases e') fun c' d' ρ' e' cls dd F' H' n x => by
        cases e'
        exact hp cls dd σ F' H' n.sx x
/-- a, b = x, y of local names -/
def parS (i j : Nat) (fl : DL) : DS := fun ρ => bndS (fl ρ) fun as ρ1 => match as with
  | [a, b] => some (.nx ((ρ1.set i (.fro a)).set j (.fro b)))
  | _ => none
theorem sd_par {i j : Nat} (h : Ea K ec W tl fl) : Sd K ec W (tPar i j tl) (parS i j fl) := by
  intro F H σ ρ oc rs e D hp
  refine Ea.goS h rs e hp fun ds ρ1 vs F1 H1 n dv e1 hp1 => ?_
  split at e1
  · cases e1
    cases dv with
    | cons d0 dr => cases dr with
      | cons d1 dn => cases dn with
        | nil =>
          have s1 := n.rs.setF (i := i) d0
          have s2 := s1.rs.setF (i := j) d1
          exact ⟨_, _, rfl, hp1 _ F1 H1 (s1.trans s2)⟩
  · cases e1
/-! ### zip -/
def zipD : List PyData → List PyData → List PyData
  | x :: xs, y :: ys => .tuple [x, y] :: zipD xs ys
  | _, _ => []
theorem zipD_length : ∀ (ds es : List PyData), (zipD ds es).length = min ds.length es.length
  | [], _ => by simp [zipD]
  | _ :: _, [] => by simp [zipD]
  | x :: xs, y :: ys => by simp [zipD, zipD_length xs ys]
theorem zipD_get : ∀ {ds es : List PyData} {i : Nat} {d : PyData}, (zipD ds es)[i]? = some d → ∃ x y, ds[i]? = some x ∧ es[i]? = some y ∧ d = .tuple [x, y]
  | [], _, _, _, e => by simp [zipD] at e
  | _ :: _, [], _, _, e => by simp [zipD] at e
  | x :: xs, y :: ys, 0, d, e => by simp [zipD] at e; exact ⟨x, y, rfl, rfl, e.symm⟩
  | x :: xs, y :: ys, i + 1, d, e => by
    obtain ⟨u, v, h1, h2, h3⟩ := zipD_get (ds := xs) (es := ys) (i := i) (d := d) (by simpa [zipD] using e)
    exact ⟨u, v, by simpa using h1, by simpa using h2, h3⟩
theorem itd_zipL (ha : F a = some (.lst xs)) (hs : DqAll K F xs ds) (hb : F b = some (.lst ys)) (ht : DqAll K F ys es) : Itd K F (Itz K a b) (zipD ds es) := by
  refine ⟨fun i H1 e hl => ⟨xs, ys, SqL.of (e _ _ ha), SqL.of (e _ _ hb), by rw [zipD_length] at hl; rw [hs.length, ht.length]; omega⟩, fun i d H1 e hd => ?_, fun i d F1 H1 x H2 e1 e2 hd hy => ?_⟩
  · obtain ⟨u, v, k1, k2, _⟩ := zipD_get hd
    obtain ⟨x, h1, _⟩ := hs.get k1
    obtain ⟨y, h2, _⟩ := ht.get k2
    exact ⟨xs, ys, x, y, SqL.of (e _ _ ha), SqL.of (e _ _ hb), h1, h2⟩
  · obtain ⟨u, v, k1, k2, rfl⟩ := zipD_get hd
    obtain ⟨x', h1, h1d⟩ := hs.get k1
    obtain ⟨y', h2, h2d⟩ := ht.get k2
    obtain ⟨T, x, y, rfl, hT, rfl, hx, hyy⟩ := hy
    have q1 := hx xs (SqL.of (e2 _ _ (e1 _ _ ha)))
    have q2 := hyy ys (SqL.of (e2 _ _ (e1 _ _ hb)))
    rw [h1] at q1
    rw [h2] at q2
    cases q1
    cases q2
    have nw := Ex.new (o := HO.tup [x', y']) (fresh_back e2 hT)
    exact .inr ⟨T, _, (fun ps z => by cases z), rfl, hT, rfl, .tup (.inl upd_same) (.cons ((h1d.mono e1).mono nw) (.cons ((h2d.mono e1).mono nw) .nil))⟩
theorem itd_zipT (ha : TupZ K.K F a xs) (hs : DqAll K F xs ds) (hb : TupZ K.K F b ys) (ht : DqAll K F ys es) : Itd K F (ItzT K a b) (zipD ds es) := by
  refine ⟨fun i H1 e hl => ⟨xs, ys, ha.sq e, hb.sq e, by rw [zipD_length] at hl; rw [hs.length, ht.length]; omega⟩, fun i d H1 e hd => ?_, fun i d F1 H1 x H2 e1 e2 hd hy => ?_⟩
  · obtain ⟨u, v, k1, k2, _⟩ := zipD_get hd
    obtain ⟨x, h1, _⟩ := hs.get k1
    obtain ⟨y, h2, _⟩ := ht.get k2
    exact ⟨xs, ys, x, y, ha.sq e, hb.sq e, h1, h2⟩
  · obtain ⟨u, v, k1, k2, rfl⟩ := zipD_get hd
    obtain ⟨x', h1, h1d⟩ := hs.get k1
    obtain ⟨y', h2, h2d⟩ := ht.get k2
    obtain ⟨T, x, y, rfl, hT, rfl, hx, hyy⟩ := hy
    have q1 := hx xs ((ha.mono e1).sq e2)
    have q2 := hyy ys ((hb.mono e1).sq e2)
    rw [h1] at q1
    rw [h2] at q2
    cases q1
    cases q2
    have nw := Ex.new (o := HO.tup [x', y']) (fresh_back e2 hT)
    exact .inr ⟨T, _, (fun ps z => by cases z), rfl, hT, rfl, .tup (.inl upd_same) (.cons ((h1d.mono e1).mono nw) (.cons ((h2d.mono e1).mono nw) .nil))⟩
/-- zip of two lists or of two tuples -/
def zipI (fl : DL) : DL := fun ρ => bnd (fl ρ) fun as ρ1 => match as with | [.list ds, .list es] => some (.ok (zipD ds es) ρ1) | [.tuple ds, .tuple es] => some (.ok (zipD ds es) ρ1) | _ => none
theorem id_zip (h : Ea K ec W tl fl) : Id K ec W (iZipA K tl) (zipI fl) := by
  intro F H σ ρ o rs e R q hf
  refine h.go rs e hf fun as ρ1 vs F1 H1 n1 dv e1 hf1 => ?_
  split at e1
  · cases e1
    cases dv with
    | cons d0 dr => cases dr with
      | cons d1 dn => cases dn with
        | nil => cases d0 with
          | lst ha hs => cases d1 with
            | lst hb ht => exact ⟨_, _, _, _, rfl, .inl ⟨SqL.of (n1.rs.ex _ _ ha), SqL.of (n1.rs.ex _ _ hb), q _ _ rfl _ F1 H1 n1 (itd_zipL ha hs hb ht)⟩⟩
  · cases e1
    cases dv with
    | cons d0 dr => cases dr with
      | cons d1 dn => cases dn with
        | nil => cases d0 with
          | tup ha hs => cases d1 with
            | tup hb ht => exact ⟨_, _, _, _, rfl, .inr ⟨ha.sq n1.rs.ex, hb.sq n1.rs.ex, q _ _ rfl _ F1 H1 n1 (itd_zipT ha hs hb ht)⟩⟩
  · cases e1
end
theorem pi_zipK {X : Cx} (K : PySem.W.Frag) (h : X.K = K) {e e2 : Expr} {ta : TA} {p pos tpos : Pos} {elts : List Expr} {kk : Nat} (hg : Gl X "zip") (hm : X.mg "zip" = none) (ha : PA X [e, e2] ta)
    (hs : starEach [e, e2] X.env = (false, eval e X.env) :: starEach [e2] X.env := by rfl) (hpl : (backTo pos (starEach [e2] X.env)).any (·.1) = false := by rfl) :
    PI X (.Tuple elts kk tpos) (.Call (.Name "zip" p) [e, e2] [] pos) (iZipA K ta) := h ▸ pi_zipA hg hm ha hs hpl
end Pd

/-! Calls that leave all as it was: is_integer, is_below. -/
namespace Qt
open PySem PySem.Spec PyProof.Rows L2 Pd Evl
/-- a value's kind, told by the heap alone -/
inductive TyU (h : Heap) : Value → PyData → Prop where
  | non : TyU h .none .none
  | bl (b : Bool) : TyU h (.bool b) (.bool b)
  | int (i : Int) (t : Tok) : TyU h (.int i t) (.int i)
  | str (x : Str) (t : Tok) : TyU h (.str x t) (.str x)
  | lst {a : Addr} {o : Obj} {ds : List PyData} : h.get? a = some o → o.cls = .type "list" → TyU h (.ref a) (.list ds)
  | tup {a : Addr} {o : Obj} {ds : List PyData} : h.get? a = some o → o.cls = .type "tuple" → TyU h (.ref a) (.tuple ds)
theorem TyU.keeps {h h' : Heap} {u : Value} {d : PyData} (x : TyU h u d) (k : ∀ b o, h.get? b = some o → h'.get? b = some o) : TyU h' u d := by
  cases x with
  | non => exact .non
  | bl b => exact .bl b
  | int i t => exact .int i t
  | str x t => exact .str x t
  | lst e c => exact .lst (k _ _ e) c
  | tup e c => exact .tup (k _ _ e) c
theorem TyU.kit {K : PySem.W.Frag} {h : Heap} {u : Value} {d : PyData} (x : TyU h u d) : ∃ P : Heap → Prop, PySem.W.KitX K u (.type (tyD d)) P ∧ P h ∧ u ≠ .builtin "__main__.__loader__#opaque" := by
  cases x with
  | non => exact ⟨_, PySem.W.kitx_none, True.intro, fun z => nomatch z⟩
  | bl b => exact ⟨_, PySem.W.kitx_bool, True.intro, fun z => nomatch z⟩
  | int i t => exact ⟨_, PySem.W.kitx_int, True.intro, fun z => nomatch z⟩
  | str x t => exact ⟨_, PySem.W.kitx_str, True.intro, fun z => nomatch z⟩
  | lst e c => exact ⟨_, PySem.W.kitx_list, ⟨_, e, c⟩, fun z => nomatch z⟩
  | tup e c => exact ⟨_, PySem.W.kitx_tuple, ⟨_, e, c⟩, fun z => nomatch z⟩
theorem TyU.of {X : Cx} {pins : List (Addr × Obj)} {σ : L2.St} {F H : Hp} {s : Shared} {K : PKt} {v : V} {d : PyData} {u : Value} (hK : X.K = K.K) (I : Inv X pins σ H s) (ex : Ex F H) (h : Dq K F v d) (nd : noDict d = true) (r : RelV v u) : TyU s.heap u d := by
  cases h with
  | non => cases (show u = Value.none from r); exact .non
  | bl b => cases (show u = Value.bool b from r); exact .bl b
  | int i => obtain ⟨t, q⟩ := (show ∃ t, u = Value.int i t from r); cases q; exact .int i t
  | str x => obtain ⟨t, q⟩ := (show ∃ t, u = Value.str x t from r); cases q; exact .str x t
  | @lst a xs ds ha hs =>
    cases (show u = Value.ref a from r)
    obtain ⟨_, _, n, _, h1⟩ := (show ObjOk X.prog X.w H s.heap a (.lst xs) from I.hok a _ (ex _ _ ha))
    exact .lst h1 rfl
  | @tup a xs ds ha hs =>
    cases (show u = Value.ref a from r)
    rcases ha with ha | ⟨o, its, n, h1, h2, _⟩
    · obtain ⟨_, _, _, o, h1, h2, _⟩ := (show ObjOk X.prog X.w H s.heap a (.tup xs) from I.hok a _ (ex _ _ ha))
      exact .tup h1 h2
    · exact .tup (I.kIn a o (by rw [hK]; exact h1)) h2
  | scr _ _ => cases nd
  | lam _ _ _ => cases nd

def isIntD : PyData → Bool
  | .int _ => true
  | _ => false
/-- what stands for all calls -/
structure Bs (K : PySem.W.Frag) (mg : Str → Option Value) (base : Heap) (s : Shared) : Prop where
  mod : L2.Mod K mg base
  bk : ∀ b o, base.get? b = some o → s.heap.get? b = some o
theorem Bs.keeps {K : PySem.W.Frag} {mg : Str → Option Value} {base : Heap} {s s' : Shared} (b : Bs K mg base s) (k : Keeps s s') : Bs K mg base s' := by
  obtain ⟨h', tk, rfl, e⟩ := k
  exact ⟨b.mod, fun a o q => e a o (b.bk a o q)⟩
theorem Bs.heap {K : PySem.W.Frag} {mg : Str → Option Value} {base : Heap} {s s' : Shared} (b : Bs K mg base s) (k : ∀ b o, s.heap.get? b = some o → s'.heap.get? b = some o) : Bs K mg base s' := ⟨b.mod, fun a o q => k a o (b.bk a o q)⟩
theorem Bs.kin {K : PySem.W.Frag} {mg : Str → Option Value} {base : Heap} {s : Shared} (b : Bs K mg base s) : K.In s.heap := b.mod.kin.keeps b.bk
theorem keeps_heap {s s' : Shared} (k : Keeps s s') : ∀ b o, s.heap.get? b = some o → s'.heap.get? b = some o := by
  obtain ⟨h', tk, rfl, e⟩ := k
  exact e
theorem keeps_trans {s s1 s2 : Shared} (a : Keeps s s1) (b : Keeps s1 s2) : Keeps s s2 := by
  obtain ⟨h', tk, rfl, e⟩ := a
  obtain ⟨h2, tk2, rfl, e2⟩ := b
  exact ⟨h2, tk2, rfl, fun x o q => e2 x o (e x o q)⟩
theorem keeps_toks (s : Shared) (k : Nat) : Keeps s { s with toks := k } := ⟨s.heap, k, rfl, fun _ _ e => e⟩
section
variable {P : Program} {w : World} {K : PySem.W.Frag} {mg : Str → Option Value} {base : Heap} {A : Around} {E : Value → Shared → Prop} {s : Shared} {env : Env} {Q : Value → Shared → Prop}
/-- the env of a def or of a generator expression -/
structure Ev0 (env : Env) : Prop where
  kind : env.scope.kind = .function
  glob : env.globals = mainGlobals
  blt : env.builtins = builtinsNs
theorem q_blt (e : Ev0 env) (b : Bs K mg base s) {x : Str} {u : Value} {p : Pos} (hg : env.kindOf x = some .globalImplicit) (hm : mg x = none) (hv : bootBuiltins x = some u) (h : Q u s) (hn : x ≠ "__name__" := by decide) (hd : (x == ("__debug__" : Str)) = false := by decide) :
    wpAny (model P w) A (eval (.Name x p) env) Q E s := by
  obtain ⟨mb, h1, h2⟩ := b.mod.blt
  exact Calls.Name_function_global e.kind hg (Calls.loadGlobal_builtin (by rw [e.glob]; exact b.mod.glob.keeps b.bk) hm (by rw [e.blt]; exact h1.keeps b.bk) ((h2 x hn).trans hv) h) hd
theorem q_glob (e : Ev0 env) (b : Bs K mg base s) {x : Str} {u : Value} {p : Pos} (hg : env.kindOf x = some .globalImplicit) (hm : mg x = some u) (h : Q u s) (hd : (x == ("__debug__" : Str)) = false := by decide) :
    wpAny (model P w) A (eval (.Name x p) env) Q E s :=
  Calls.Name_function_global e.kind hg (Calls.loadGlobal_global (by rw [e.glob]; exact b.mod.glob.keeps b.bk) hm h) hd
theorem q_loc (e : Ev0 env) {m : Str → Option Value} {x : Str} {u : Value} {p : Pos} (hx : env.kindOf x = some .local) (hn : s.heap.Ns env.locals m) (hm : m x = some u) (h : Q u s) (hd : (x == ("__debug__" : Str)) = false := by decide) :
    wpAny (model P w) A (eval (.Name x p) env) Q E s := wpAny_Name (wpAny_loadName_local e.kind hx hn hm h) hd
/-- isinstance(x, ty), x known -/
theorem q_isi (e : Ev0 env) (b : Bs K mg base s) {x ty : Str} {tn : String} {p1 p2 p3 p4 : Pos} {u : Value} {d : PyData} {r : Bool} (hi : env.kindOf "isinstance" = some .globalImplicit) (hmi : mg "isinstance" = none) (ht : env.kindOf ty = some .globalImplicit) (hmt : mg ty = none) (hbt : bootBuiltins ty = some (.type tn))
    (hx : ∀ (Q : Value → Shared → Prop), Q u s → wpAny (model P w) A (eval (.Name x p2) env) Q E s) (tu : TyU s.heap u d) (hk : PySem.W.kitOne K (.type (tyD d)) (.type tn) = some r) (h : ∀ s', Keeps s s' → Q (.bool r) s') (hn : ty ≠ "__name__" := by decide) (hd : (ty == ("__debug__" : Str)) = false := by decide) :
    wpAny (model P w) A (eval (.Call (.Name "isinstance" p1) [.Name x p2, .Name ty p3] [] p4) env) Q E s := by
  refine wpAny_Call_Name_kw (q_blt e b hi hmi boot_isinstance ?_)
  have he : starEach [.Name x p2, .Name ty p3] env = (false, eval (.Name x p2) env) :: starEach [.Name ty p3] env := by rfl
  refine PyProof.Rows.callWith_builtin1 ?_ he (by rfl)
  rw [he]
  show wpAny _ _ (spliced ((false, eval (.Name x p2) env) :: backTo p4 (starEach [.Name ty p3] env))) _ _ s
  refine Calls.spliced_cons (hx _ ?_)
  have he2 : starEach [.Name ty p3] env = (false, eval (.Name ty p3) env) :: starEach [] env := by rfl
  rw [he2]
  show wpAny _ _ (spliced ((false, eval (.Name ty p3) env) :: backTo p4 (starEach [] env))) _ _ s
  refine Calls.spliced_cons (q_blt e b ht hmt hbt ?_ hn hd)
  refine Calls.spliced_nil ?_
  obtain ⟨Ph, Z, ph, ne⟩ := tu.kit (K := K)
  exact PySem.W.kia_one Z b.kin ph hk ne fun tk => h _ (keeps_toks s tk)
/-- a def of one return, its names all parameters -/
theorem q_call {name : Str} {st : Stmt} {f : Addr} {fd : FuncData} {N : List Str} {e : Expr} {pr : Pos} {us : List Value} {r : Value} (F : Fun K name name st f fd) (S : FnScope N N (defScope st)) (hb : L2.Binds K fd N []) (hbody : defBody st = [.Return (some e) pr]) (hl : us.length = N.length)
    (hloc : ∀ x ∈ N, (defScope st).names.lookup x = some .local) (hdp : A.depth < recursionLimit) (b : Bs K mg base s)
    (he : ∀ (env : Env) (m : Str → Option Value) (s1 : Shared) (A' : Around) (E' : Value → Shared → Prop), Ev0 env → env.scope = defScope st → s1.heap.Ns env.locals m → (∀ (i : Nat) (x : Str) (u : Value), N[i]? = some x → us[i]? = some u → m x = some u) → Keeps s s1 → A'.depth ≤ A.depth + 1 → A'.handled = A.handled →
      wpAny (model P w) A' (eval e env) (fun y s2 => y = r ∧ Keeps s1 s2) E' s1)
    (h : ∀ s', Keeps s s' → Q r s') : wpAny (model P w) A (call (.ref f) us) Q E s := by
  obtain ⟨oc, od, kV, doc, pm, an, cdv, ct, osl, rfl, lk, hcd⟩ := F.ex
  have KX : K.In s.heap := b.kin
  have lim : s.heap.NoLimit := b.mod.nolimit.keeps b.bk
  refine wpAny_call (codeAny_call_function hdp (KX _ _ lk) rfl S.co S.gen rfl (PySem.W.codeRec_of KX hcd) ?_)
  have hbs := hb s us KX (by rw [List.append_nil]; exact hl)
  rw [List.append_nil] at hbs
  refine hbs _ _ _ _ ?_
  refine wpAny_newFunctionEnv_cells S.kind (fun y hy => .inl (hloc _ (List.of_mem_zip hy).1)) fun env he1 s1 x => ?_
  subst he1
  refine ⟨lim.keeps x.toInCall.keep, codeAny_func ?_⟩
  obtain ⟨h1, tk, hs1⟩ := x.toInCall.same
  have k1 : Keeps s s1 := ⟨h1, tk, hs1, by have := x.toInCall.keep; rw [hs1] at this; exact this⟩
  show wpAny _ _ (execs (defBody st) _) _ _ s1
  rw [hbody]
  refine wpAny_execs_cons (wpAny_Return_some (wpAny_mono (he _ _ s1 _ _ ⟨S.kind, rfl, rfl⟩ rfl x.toInCall.ns (fun i z u h1 h2 => bindL_get S.nd h1 h2 (hloc z (List.mem_of_getElem? h1))) k1 (Nat.le_refl _) rfl) (fun y s2 hq => ?_) fun _ _ z => z))
  obtain ⟨rfl, k2⟩ := hq
  exact h s2 (keeps_trans k1 k2)
theorem kitI {d : PyData} : noDict d = true → PySem.W.kitOne K (.type (tyD d)) (.type "int") = some (match d with | .int _ => true | .bool _ => true | _ => false) := by
  intro h
  cases d with
  | dict _ => cases h
  | none => exact kit_ty (by first | rfl | decide +kernel)
  | bool _ => exact kit_ty (by first | rfl | decide +kernel)
  | int _ => exact kit_ty (by first | rfl | decide +kernel)
  | str _ => exact kit_ty (by first | rfl | decide +kernel)
  | list _ => exact kit_ty (by first | rfl | decide +kernel)
  | tuple _ => exact kit_ty (by first | rfl | decide +kernel)
def isBoolD : PyData → Bool
  | .bool _ => true
  | _ => false
theorem kitBo {d : PyData} : noDict d = true → PySem.W.kitOne K (.type (tyD d)) (.type "bool") = some (isBoolD d) := by
  intro h
  cases d with
  | dict _ => cases h
  | none => exact kit_ty (by first | rfl | decide +kernel)
  | bool _ => exact kit_ty (by first | rfl | decide +kernel)
  | int _ => exact kit_ty (by first | rfl | decide +kernel)
  | str _ => exact kit_ty (by first | rfl | decide +kernel)
  | list _ => exact kit_ty (by first | rfl | decide +kernel)
  | tuple _ => exact kit_ty (by first | rfl | decide +kernel)
theorem TyU.nd {h : Heap} {u : Value} {d : PyData} (x : TyU h u d) : noDict d = true := by cases x <;> rfl
/-- is_integer(value) -/
structure Int1 (st : Stmt) : Prop where
  body : ∃ p1 p2 p3 p4 p5 p6 p7 p8 p9 p10 p11, defBody st = [.Return (some (.BoolOp .And [.Call (.Name "isinstance" p1) [.Name "value" p2, .Name "int" p3] [] p4, .UnaryOp .Not (.Call (.Name "isinstance" p5) [.Name "value" p6, .Name "bool" p7] [] p8) p9] p10)) p11]
  sc : FnScope ["value"] ["value"] (defScope st)
  loc : (defScope st).names.lookup ("value" : Str) = some .local
  g1 : (defScope st).names.lookup ("isinstance" : Str) = some .globalImplicit
  g2 : (defScope st).names.lookup ("int" : Str) = some .globalImplicit
  g3 : (defScope st).names.lookup ("bool" : Str) = some .globalImplicit
/-- the names that both look up -/
structure Nm (mg : Str → Option Value) : Prop where
  isi : mg "isinstance" = none
  int : mg "int" = none
  bool : mg "bool" = none
theorem q_is_integer {st : Stmt} {f : Addr} {fd : FuncData} {u : Value} {d : PyData} (F : Fun K "is_integer" "is_integer" st f fd) (Z : Int1 st) (M : Nm mg) (hb : L2.Binds K fd ["value"] []) (hdp : A.depth < recursionLimit) (b : Bs K mg base s) (tu : TyU s.heap u d)
    (h : ∀ s', Keeps s s' → Q (.bool (isIntD d)) s') : wpAny (model P w) A (call (.ref f) [u]) Q E s := by
  obtain ⟨p1, p2, p3, p4, p5, p6, p7, p8, p9, p10, p11, hbody⟩ := Z.body
  refine q_call F Z.sc hb hbody rfl (fun x hx => by rw [List.mem_singleton.mp hx]; exact Z.loc) hdp b (fun env m s1 A' E' e0 es ns hm k1 hA _ => ?_) h
  have hv : m "value" = some u := hm 0 "value" u rfl rfl
  have ko : ∀ {x : Str} {k : NameKind}, (defScope st).names.lookup x = some k → env.kindOf x = some k := fun {x k} e => by
    show env.scope.names.lookup x = some k
    rw [es]; exact e
  have b1 := b.keeps k1
  have tu1 := tu.keeps (keeps_heap k1)
  have nd := tu.nd
  refine BoolOp_and (q_isi e0 b1 (tn := "int") (ko Z.g1) M.isi (ko Z.g2) M.int (by rfl) (fun Q hQ => q_loc e0 (ko Z.loc) ns hv hQ) tu1 (kitI nd) fun s2 k2 => wpAny_truthy_bool ?_)
  have b2 := b1.keeps k2
  have tu2 := tu1.keeps (keeps_heap k2)
  have rest : ∀ (y : Bool), isBoolD d = y → wpAny (model P w) A' (eval (.BoolOp .And [.UnaryOp .Not (.Call (.Name "isinstance" p5) [.Name "value" p6, .Name "bool" p7] [] p8) p9] p10) env) (fun z s3 => z = .bool (!y) ∧ Keeps s1 s3) E' s2 := fun y hy => by
    refine BoolOp_one (UnaryOp_ (q_isi e0 b2 (tn := "bool") (ko Z.g1) M.isi (ko Z.g3) M.bool (by rfl) (fun Q hQ => q_loc e0 (ko Z.loc) (ns.keeps (keeps_heap k2)) hv hQ) tu2 (kitBo nd) fun s3 k3 => not_of (wpAny_truthy_bool ?_)))
    rw [hy]
    exact ⟨rfl, keeps_trans k2 k3⟩
  cases d with
  | dict _ => cases nd
  | none => exact ⟨rfl, k2⟩
  | str _ => exact ⟨rfl, k2⟩
  | list _ => exact ⟨rfl, k2⟩
  | tuple _ => exact ⟨rfl, k2⟩
  | int _ => exact rest false rfl
  | bool _ => exact rest true rfl
/-- is_below(value, many) -/
structure Bel (st : Stmt) : Prop where
  body : ∃ p1 p2 p3 p4 p5 p6 p7 p8 p9 j, defBody st = [.Return (some (.BoolOp .And [.Call (.Name "is_integer" p1) [.Name "value" p2] [] p3, .Compare (.Constant (.int 0) j p4) [.LtE, .Lt] [.Name "value" p5, .Name "many" p6] p7] p8)) p9]
  sc : FnScope ["value", "many"] ["value", "many"] (defScope st)
  loc : (defScope st).names.lookup ("value" : Str) = some .local
  lom : (defScope st).names.lookup ("many" : Str) = some .local
  g1 : (defScope st).names.lookup ("is_integer" : Str) = some .globalImplicit
def belowB (m : Int) : PyData → Bool
  | .int i => decide (0 ≤ i) && decide (i < m)
  | _ => false
/-- is_integer's place in the program -/
structure IntF (K : PySem.W.Frag) (mg : Str → Option Value) (st : Stmt) (f : Addr) (fd : FuncData) : Prop where
  F : Fun K "is_integer" "is_integer" st f fd
  Z : Int1 st
  b : L2.Binds K fd ["value"] []
  m : mg "is_integer" = some (.ref f)
theorem q_is_below {st sti : Stmt} {f fi : Addr} {fd fdi : FuncData} {u : Value} {d : PyData} {n : Int} {t : Tok} (F : Fun K "is_below" "is_below" st f fd) (Z : Bel st) (FI : IntF K mg sti fi fdi) (M : Nm mg) (hb : L2.Binds K fd ["value", "many"] []) (hdp : A.depth + 2 < recursionLimit) (b : Bs K mg base s) (tu : TyU s.heap u d)
    (h : ∀ s', Keeps s s' → Q (.bool (belowB n d)) s') : wpAny (model P w) A (call (.ref f) [u, .int n t]) Q E s := by
  obtain ⟨p1, p2, p3, p4, p5, p6, p7, p8, p9, j, hbody⟩ := Z.body
  refine q_call F Z.sc hb hbody rfl (fun x hx => by
    rcases List.mem_cons.mp hx with e | hx
    · rw [e]; exact Z.loc
    · rw [List.mem_singleton.mp hx]; exact Z.lom) (by omega) b (fun env m s1 A' E' e0 es ns hm k1 hA _ => ?_) h
  have hv : m "value" = some u := hm 0 "value" u rfl rfl
  have hmn : m "many" = some (.int n t) := hm 1 "many" _ rfl rfl
  have ko : ∀ {x : Str} {k : NameKind}, (defScope st).names.lookup x = some k → env.kindOf x = some k := fun {x k} e => by
    show env.scope.names.lookup x = some k
    rw [es]; exact e
  have b1 := b.keeps k1
  have tu1 := tu.keeps (keeps_heap k1)
  have nd := tu.nd
  have he : starEach [.Name "value" p2] env = (false, eval (.Name "value" p2) env) :: starEach [] env := by rfl
  refine BoolOp_and (wpAny_Call_Name_kw (q_glob e0 b1 (ko Z.g1) FI.m ?_))
  refine PySem.W.callWith_K (h₀ := base) b.mod.kin FI.F.kp ?_ he (by rfl)
  rw [he]
  show wpAny _ _ (spliced ((false, eval (.Name "value" p2) env) :: backTo p3 (starEach [] env))) _ _ s1
  refine Calls.spliced_cons (q_loc e0 (ko Z.loc) ns hv ?_)
  refine Calls.spliced_nil ⟨b1.kin, ?_⟩
  refine q_is_integer FI.F FI.Z M FI.b (by omega) b1 tu1 fun s2 k2 => wpAny_truthy_bool ?_
  have ns2 := ns.keeps (keeps_heap k2)
  cases d with
  | dict _ => cases nd
  | none => exact ⟨rfl, k2⟩
  | str _ => exact ⟨rfl, k2⟩
  | list _ => exact ⟨rfl, k2⟩
  | tuple _ => exact ⟨rfl, k2⟩
  | bool _ => exact ⟨rfl, k2⟩
  | int i =>
    obtain ⟨t2, rfl⟩ : ∃ t2, u = .int i t2 := by cases tu with | int _ t2 => exact ⟨t2, rfl⟩
    show wpAny _ _ (eval (.BoolOp .And [.Compare (.Constant (.int 0) j p4) [.LtE, .Lt] [.Name "value" p5, .Name "many" p6] p7] p8) env) _ _ s2
    refine BoolOp_one (Compare_chain (wpAny_Constant_int (chain_link (q_loc e0 (ko Z.loc) (ns2.keeps fun _ _ e => e) hv (le_int (wpAny_truthy_bool ?_))))) (by with_unfolding_all rfl))
    by_cases h0 : (0 : Int) ≤ i
    · rw [decide_eq_true h0]
      refine ite_tt (chain_last (q_loc e0 (ko Z.lom) (ns2.keeps fun _ _ e => e) hmn (lt_int ⟨?_, keeps_trans k2 (keeps_toks _ _)⟩)))
      show Value.bool (decide (i < n)) = Value.bool (decide (0 ≤ i) && decide (i < n))
      rw [decide_eq_true h0]
      rfl
    · rw [decide_eq_false h0]
      refine ite_ff ⟨?_, keeps_trans k2 (keeps_toks _ _)⟩
      show Value.bool false = Value.bool (decide (0 ≤ i) && decide (i < n))
      rw [decide_eq_false h0]
      rfl
end
end Qt

/-! all(elt for x in list or tuple), elt a quiet test. -/
namespace Qt
open PySem PySem.Spec PyProof.Rows L2 Pd Evl
/-- the element: a test of one datum, asked while what stood at h1 stands -/
def EltD (X : Cx) (h1 : Heap) (scope : Scope) (x : Str) (elt : Expr) (pb : PyData → Bool) : Prop :=
  ∀ (cenv : Env) (A' : Around) (E' : Value → Shared → Prop) (u : Value) (d : PyData) (s₂ : Shared) (m₂ : Str → Option Value), cenv.scope = scope → Ev0 cenv → cenv.cells = cloFrom X.env.cells scope.names [] → A'.depth ≤ X.A.depth + 1 →
    Bs X.K X.mg X.base s₂ → (∀ c v, h1.IsCell c v → s₂.heap.IsCell c v) → TyU s₂.heap u d → s₂.heap.Ns cenv.locals m₂ → m₂ x = some u →
    wpAny (model X.prog X.w) A' (eval elt cenv) (fun y s₃ => y = .bool (pb d) ∧ Keeps s₂ s₃) E' s₂
/-- all data of the row, told by the heap -/
def TyAll (h : Heap) (us : List Value) (ds : List PyData) : Prop := us.length = ds.length ∧ ∀ (i : Nat) (u : Value) (d : PyData), us[i]? = some u → ds[i]? = some d → TyU h u d
theorem TyAll.of {X : Cx} {pins : List (Addr × Obj)} {σ : L2.St} {F H : Hp} {s : Shared} {K : PKt} (hK : X.K = K.K) (I : Inv X pins σ H s) (ex : Ex F H) : ∀ {vs : List V} {ds : List PyData} {us : List Value}, DqAll K F vs ds → (∀ d ∈ ds, noDict d = true) → Vals vs us → TyAll s.heap us ds
  | _, _, _, .nil, _, .nil => ⟨rfl, fun i u d e => by simp at e⟩
  | _, _, _, .cons h t, nd, .cons r rt => by
    obtain ⟨l, g⟩ := TyAll.of hK I ex t (fun d hd => nd d (List.mem_cons_of_mem _ hd)) rt
    refine ⟨by rw [List.length_cons, List.length_cons, l], fun i u d e1 e2 => ?_⟩
    cases i with
    | zero =>
      simp at e1 e2
      subst e1 e2
      exact TyU.of hK I ex h (nd _ List.mem_cons_self) r
    | succ i =>
      simp at e1 e2
      exact g i u d e1 e2
def trD (pb : PyData → Bool) (ds : List PyData) (j : Nat) : Bool := match ds[j]? with
  | some d => pb d
  | none => false
theorem trD_some {pb : PyData → Bool} {ds : List PyData} {j : Nat} {d : PyData} (h : ds[j]? = some d) : trD pb ds j = pb d := by
  unfold trD
  rw [h]
theorem all_trD (ds : List PyData) (pb : PyData → Bool) : (List.range ds.length).all (trD pb ds) = ds.all pb := by
  rw [Bool.eq_iff_iff, List.all_eq_true, List.all_eq_true]
  constructor
  · intro h b hb
    obtain ⟨j, hj, e⟩ := List.getElem_of_mem hb
    have q := h j (List.mem_range.mpr hj)
    rw [trD_some (List.getElem?_eq_getElem hj), e] at q
    exact q
  · intro h j hj
    have hj' := List.mem_range.mp hj
    rw [trD_some (List.getElem?_eq_getElem hj')]
    exact h _ (List.getElem_mem hj')
section
variable {X : Cx} {pins : List (Addr × Obj)} {σ : L2.St} {H : Hp} {s : Shared}
/-- a list or a tuple, ready to be walked -/
theorem iter_seq {A : Around} {E : Value → Shared → Prop} {Q : Value → Shared → Prop} {s1 : Shared} {H1 : Hp} {a : Addr} {xs : List V} (I1 : Inv X pins σ H1 s1) (h : SqL X.K H1 a xs ∨ SqT X.K H1 a xs)
    (hq : ∀ (its : List Value) (o : Obj) (St : Nat → Heap → Prop), Vals xs its → s1.heap.get? a ≠ none → (∀ ps, H1 a ≠ some (.tbl ps)) → (∀ A' : Around, A'.handled = none → Walks X.prog X.w A' s1.heap.objs.size [s1.heap.objs.size, a] [s1.heap.objs.size] its.length (fun i v => its[i]? = some v) St) → St 0 (s1.heap.push o) → Q (.ref s1.heap.objs.size) { s1 with heap := s1.heap.push o }) :
    wpAny (model X.prog X.w) A (pyIter (.ref a)) Q E s1 := by
  have lt_ne : ∀ {a : Addr} {o : Obj}, s1.heap.get? a = some o → a ≠ s1.heap.objs.size := fun {a o} e => Nat.ne_of_lt (Heap.lt_size e)
  rcases h with h | h
  · obtain ⟨its, rv, pl, _⟩ := I1.list h
    have L := pl.isList
    have there := L
    obtain ⟨ob, ho, hc, _⟩ := there
    refine wpAny_pyIter_list L (hq its _ (fun i h => h.IsListIter s1.heap.objs.size a i ∧ h.IsList a its.toArray) rv (by rw [ho]; exact fun z => nomatch z) (fun ps z => ?_) (fun A' hA => ?_) ⟨⟨_, Heap.get?_push_size _ rfl, rfl, rfl⟩, L.push _⟩)
    · have q := I1.hok a _ z
      have q : s1.heap.get? a = some { cls := .none, data := .fields ps } := q
      rw [ho] at q
      cases q
      cases hc
    · have W := Walks.list (prog := X.prog) (w := X.w) hA s1.heap.objs.size a (lt_ne ho) its.toArray
      simpa using W
  · obtain ⟨its, rv, pl, _⟩ := I1.tuple h
    have L : s1.heap.IsTuple a its.toArray := pl
    have there := L
    obtain ⟨ob, ho, hc, _⟩ := there
    refine wpAny_pyIter_tuple L (hq its _ (fun i h => h.IsTupleIter s1.heap.objs.size a i ∧ h.IsTuple a its.toArray) rv (by rw [ho]; exact fun z => nomatch z) (fun ps z => ?_) (fun A' hA => ?_) ⟨⟨_, Heap.get?_push_size _ rfl, rfl, rfl⟩, L.push _⟩)
    · have q := I1.hok a _ z
      have q : s1.heap.get? a = some { cls := .none, data := .fields ps } := q
      rw [ho] at q
      cases q
      cases hc
    · have W := Walks.tuple (prog := X.prog) (w := X.w) hA s1.heap.objs.size a (lt_ne ho) its.toArray
      simpa using W
theorem pe_allD {c P : Addr} {elt iter : Expr} {x : Str} {px p pos gpos : Pos} {scope : Scope} {te : TE} {k : Nat} {T : List (Addr × Str)}
    (hr : Room k X.A) (hg : Gl X "all") (hm : X.mg "all" = none) (TB : LamX.TabB X.base X.mg c P) (hcode : X.env.code = .ref c) (S : GxR.GenS X.env scope x) (hi : PE X iter te)
    (hmT : (P, X.env.qual ++ ("<genexpr>" : Str)) ∈ T) (hu : ∀ p ∈ T, p.1 = P → p.2 = X.env.qual ++ ("<genexpr>" : Str))
    (hs : ∀ v, genFold iter X.env v = pure v)
    (he : starEach [.GeneratorExp elt [⟨.Name x px, iter, [], 0⟩] scope gpos] X.env = (false, eval (.GeneratorExp elt [⟨.Name x px, iter, [], 0⟩] scope gpos) X.env) :: starEach [] X.env := by rfl) {K : PKt} (hK : X.K = K.K) :
    PE X (.Call (.Name "all" p) [.GeneratorExp elt [⟨.Name x px, iter, [], 0⟩] scope gpos] [] pos)
      (fun σ H Q => te σ H fun v H1 => ∃ (a : Addr) (xs : List V) (F : Hp) (ds : List PyData) (pb : PyData → Bool), v = .ref a ∧ (SqL X.K H1 a xs ∨ SqT X.K H1 a xs) ∧ Ex F H1 ∧ DqAll K F xs ds ∧ (∀ d ∈ ds, noDict d = true) ∧ LamX.Tabs T H1 ∧
        (∀ (pins : List (Addr × Obj)) (s1 : Shared), Inv X pins σ H1 s1 → EltD X s1.heap scope x elt pb) ∧ ∀ H2, LamX.ExtN H1 H2 → LamX.Tabs T H2 → (∀ b, H1 b = none → ∀ o, H2 b = some o → o = LamX.CodeO b (X.env.qual ++ ("<genexpr>" : Str))) → Q (.bl (ds.all pb)) H2) := by
  refine ⟨fun pins s σ H Q I h => ?_⟩
  refine wpAny_Call_Name_kw (ld_blt I hg hm PyProof.Rows.boot_all ?_)
  refine PyProof.Rows.callWith_builtin1 ?_ he (by rfl)
  rw [he]
  show wpAny _ _ (spliced ((false, eval (.GeneratorExp elt [⟨.Name x px, iter, [], 0⟩] scope gpos) X.env) :: backTo pos (starEach [] X.env))) _ _ s
  refine Calls.spliced_cons ?_
  refine wpAny_GeneratorExp_walksQD hr.hd S.co (closure_ok S.free) S.cell S.dot S.loc S.kind (by have := hr.dp; omega) ?_ hs
  refine thn (hi.run pins s σ H _ I h) fun xv s1 ⟨v, H1, I1, r1, q1⟩ => ?_
  obtain ⟨a, xs, F, ds, pb, rfl, hseq, hex, hds, hnd, hT, hel, q1⟩ := q1
  cases (show xv = Value.ref a from r1)
  have hel := hel pins s1 I1
  obtain ⟨ps, hP, ht, hca⟩ := hT _ hmT
  refine iter_seq I1 hseq fun its o St rv hthere hnt W hst => ?_
  have tyA : TyAll s1.heap its ds := TyAll.of hK I1 hex hds hnd rv
  have hPs : s1.heap.get? P = some { cls := .none, data := .fields ps } := I1.hok P _ hP
  have hPlt : P < s1.heap.objs.size := Heap.lt_size hPs
  have haP : a ≠ P := fun e => hnt ps (by rw [e]; exact hP)
  have hP2 : (s1.heap.push o).get? P = some { cls := .none, data := .fields ps } := Heap.get?_push_of_some _ hPs
  have cd : PySem.W.CodeHd (s1.heap.push o) c P := TB.code.keeps fun b u e => Heap.get?_push_of_some _ (I1.bk b u e)
  have lim2 : (s1.heap.push o).NoLimit := I1.nolimit.push o
  have main : ∀ (code : Value) (h3 : Heap) (tk : Nat) (ps' : Array Value) (more : Array Value), ps' = ps ++ more → Heap.ExtBut P (s1.heap.push o) h3 → (s1.heap.push o).objs.size ≤ h3.objs.size → h3.get? P = some { cls := .none, data := .fields ps' } →
      (∀ s' : Shared, AllBare s'.gens → s'.os = s1.os → (∀ b u, b ≠ P → s1.heap.get? b = some u → s'.heap.get? b = some u) → (∀ b u, b ≠ s1.heap.objs.size → h3.get? b = some u → s'.heap.get? b = some u) →
        ∃ H2, LamX.ExtN H1 H2 ∧ LamX.Tabs T H2 ∧ (∀ b, H1 b = none → ∀ o, H2 b = some o → o = LamX.CodeO b (X.env.qual ++ ("<genexpr>" : Str))) ∧ Inv X pins σ H2 s') →
      wpAny (model X.prog X.w) X.A (builtinsFor X.env.globals X.env.builtins) (fun bi s₄ =>
        ∃ Ia fp wr n₀ Pf St₀ pz F, Value.ref s1.heap.objs.size = .ref Ia ∧ (∀ A' : Around, A'.handled = none → Walks X.prog X.w A' Ia fp wr n₀ Pf St₀) ∧ St₀ 0 s₄.heap ∧ (∀ b ∈ fp, b < s₄.heap.objs.size) ∧ s₄.heap.NoLimit ∧ cStatics ∉ wr ∧
          (∀ href : Heap, (∀ b o, s₄.heap.get? b = some o → href.get? b = some o) →
            QuietGenD X.prog X.w (genEnv scope (cloFrom X.env.cells scope.names []) s₄.heap.objs.size code bi X.env) x [] elt (List.range s₄.heap.objs.size) wr Pf pz F href (X.A.depth + 1) (X.A.units + 8)) ∧
          (∀ a h₅ tk gs, gs.bare = true → s₄.heap.objs.size < a → h₅.objs.size = a + 1 → (∀ b o, s₄.heap.get? b = some o → h₅.get? b = some o) →
            WalksS X.prog X.w X.A.in4 a (a :: s₄.heap.objs.size :: List.range s₄.heap.objs.size) (s₄.heap.objs.size :: wr) (GenOnlyQ s₄.gens.size) (passing pz n₀ 0).length
              (fun j y => ∃ i, (passing pz n₀ 0)[j]? = some i ∧ F i y) (GenAt X.prog X.w X.A.in4 a s₄.gens.size s₄.heap.objs.size (List.range s₄.heap.objs.size) wr pz n₀ F) →
            GenAt X.prog X.w X.A.in4 a s₄.gens.size s₄.heap.objs.size (List.range s₄.heap.objs.size) wr pz n₀ F 0 { s₄ with gens := s₄.gens.push gs, toks := tk, heap := h₅ } →
            wpAny (model X.prog X.w) X.A (spliced (backTo pos (starEach [] X.env))) (fun vs s₂ => wpAny (model X.prog X.w) X.A (call (.builtin "all") (.ref a :: vs)) (EP X pins σ Q) X.xe s₂) X.xe { s₄ with gens := s₄.gens.push gs, toks := tk, heap := h₅ })) X.xe { s1 with heap := h3, toks := tk } := by
    intro code h3 tk ps' more hmore hx hsz hP3 hfin
    obtain ⟨bm, ob, e1, e2, e3, e4, e5, e6, e7, e8⟩ := TB.bm
    have hcP : cStatics ≠ P := fun e => by
      obtain ⟨_, hns, _⟩ := I1.nolimit
      obtain ⟨o', es, ep, ho, hd, _⟩ := hns
      rw [e, hPs] at ho
      cases ho
      cases hd
    have hcl : cStatics < s1.heap.objs.size := let ⟨_, hns, _⟩ := I1.nolimit; hns.lt
    have sz2 : (s1.heap.push o).objs.size = s1.heap.objs.size + 1 := Heap.size_push ..
    have keep3 : ∀ b u, b ≠ P → s1.heap.get? b = some u → h3.get? b = some u := fun b u hb e => hx b u hb (Heap.get?_push_of_some _ e)
    refine wpAny_builtinsFor (m := X.mg) (by rw [I1.ok.glob]; exact ((I1.mod.glob.keeps I1.bk).push o).extBut hx TB.gP) e1 e2 (keep3 _ _ e4 (I1.bk _ _ e5)) e6 e7 e8 ?_
    have halt : a < s1.heap.objs.size := by
      cases hq : s1.heap.get? a with
      | none => exact absurd hq hthere
      | some u => exact Heap.lt_size hq
    refine ⟨s1.heap.objs.size, [s1.heap.objs.size, a], [s1.heap.objs.size], its.length, _, St, (fun _ => true), (fun i y => ∃ d, ds[i]? = some d ∧ y = .bool (pb d)), rfl, W, ?_, ?_, lim2.extBut hx hcP, ?_, ?_, ?_⟩
    · refine (W X.A hr.hd).frame _ _ _ hst fun b hb u e => hx b u (fun z => ?_) e
      rcases List.mem_cons.mp hb with z2 | z2
      · exact Nat.ne_of_lt hPlt (z.symm.trans z2)
      · exact haP ((List.mem_singleton.mp z2).symm.trans z)
    · intro b hb
      show b < h3.objs.size
      have hsz2 : s1.heap.objs.size + 1 ≤ h3.objs.size := by rw [← sz2]; exact hsz
      rcases List.mem_cons.mp hb with z | z
      · rw [z]
        exact hsz2
      · rw [List.mem_singleton.mp z]
        exact Nat.lt_trans halt hsz2
    · intro z
      exact Nat.ne_of_lt hcl (List.mem_singleton.mp z)
    · intro href hhref
      have b3 : ∀ (s₂ : Shared), (∀ b ∈ List.range h3.objs.size, b ∉ [s1.heap.objs.size] → ∀ o, href.get? b = some o → s₂.heap.get? b = some o) → ∀ b u, b ≠ P → s1.heap.get? b = some u → s₂.heap.get? b = some u := fun s₂ hk b u hb e => by
        have e3 := keep3 b u hb e
        exact hk b (List.mem_range.mpr (Heap.lt_size e3)) (fun z => by
          have := Heap.lt_size e
          rw [List.mem_singleton.mp z] at this
          exact Nat.lt_irrefl _ this) u (hhref b u e3)
      refine ⟨fun A' E' i v s₂ m₂ hA _ _ hPv hn hm hk => ?_, fun A' E' i v s₂ m₂ hA hdep _ hPv hp hn hm hk => ?_⟩
      · simp only [List.forIn_nil]
        exact wpAny_pure ⟨rfl, GxR.keeps_refl _⟩
      · have hk3 := b3 s₂ hk
        have hid : i < ds.length := by rw [← tyA.1]; exact (List.getElem?_eq_some_iff.mp hPv).1
        have hdi : ds[i]? = some ds[i] := List.getElem?_eq_getElem hid
        have nP : ∀ b u, X.base.get? b = some u → b ≠ P := fun b u e z => by
          have := (I1.bs b u e).2
          rw [z, hP] at this
          cases this
        refine wpAny_mono (hel _ A' E' v ds[i] s₂ m₂ rfl ⟨S.kind, I1.ok.glob, rfl⟩ rfl (by omega) ⟨I1.mod, fun b u e => hk3 b u (nP b u e) (I1.bk b u e)⟩ (fun cc vv ⟨ob, ho, hd⟩ => ⟨ob, hk3 cc ob (fun z => ?_) ho, hd⟩) ?_ hn hm) (fun y s3 r => ⟨⟨ds[i], hdi, r.1⟩, r.2⟩) fun _ _ e => e
        · rw [z, hPs] at ho
          cases ho
          cases hd
        · have ty1 := tyA.2 i v ds[i] hPv hdi
          generalize hde : ds[i] = dd at ty1
          cases ty1 with
          | non => exact .non
          | bl b => exact .bl b
          | int i t => exact .int i t
          | str x t => exact .str x t
          | lst e c => exact .lst (hk3 _ _ (fun z => by rw [z, hPs] at e; cases e; cases c) e) c
          | tup e c => exact .tup (hk3 _ _ (fun z => by rw [z, hPs] at e; cases e; cases c) e) c
    · intro g h5 tk5 gs hgb hag hsz5 hk5 W5 hat
      simp only [GxR.passing_true, List.length_range] at W5
      refine Calls.spliced_nil ?_
      refine call_all_walkS ((W5.in4_1).self 0 _ _ _ hat ⟨g, _, _, _, its.length, _, _, trD pb ds, rfl, W5.in4_1, hat, ?_, fun s' hmv => ?_⟩)
      · intro j y sj Qj Ej hy hQj
        obtain ⟨i, hij, d, hd, rfl⟩ := hy
        obtain ⟨hj, ej⟩ := List.getElem?_eq_some_iff.mp hij
        rw [List.getElem_range] at ej
        subst ej
        have hQ2 : Qj (trD pb ds j) sj := hQj
        rw [trD_some hd] at hQ2
        exact wpAny_truthy_bool hQ2
      · have nwr : ∀ b u, s1.heap.get? b = some u → b ∉ h3.objs.size :: [s1.heap.objs.size] := fun b u e hb => by
          have hl := Heap.lt_size e
          rcases List.mem_cons.mp hb with z | z
          · rw [z] at hl
            have h9 : (h3.objs.size : Nat) < s1.heap.objs.size := hl
            omega
          · rw [List.mem_singleton.mp z] at hl
            exact Nat.lt_irrefl _ hl
        obtain ⟨H2, x1, x2, x3, J⟩ := hfin s' (AllBare.movedS (I1.bare.push hgb) hmv) hmv.os (fun b u hb e => hmv.heap b u (nwr b u e) (hk5 b u (keep3 b u hb e))) (fun b u hb e => hmv.heap b u (fun z => by
          rcases List.mem_cons.mp z with z | z
          · have := Heap.lt_size e
            rw [z] at this
            exact Nat.lt_irrefl _ this
          · exact hb (List.mem_singleton.mp z)) (hk5 b u e))
        refine ⟨.bl _, H2, J, rfl, ?_⟩
        rw [tyA.1, all_trD ds pb]
        exact q1 H2 x1 x2 x3
  refine ⟨lim2, ?_⟩
  cases hf : codeAmong gpos ps.toList with
  | none =>
    refine wpAny_genexprCodeX hcode (cd.code hP2 ht) (cd.tab hP2) hf fun c' h' tk hx hge hlt hco' hrec htab' _ => ?_
    obtain ⟨c2, oc, vs, t, e2, hoc, hd, hv⟩ := hrec
    cases e2
    have hc1 : s1.heap.objs.size ≤ c' := by rw [Heap.size_push] at hge; omega
    have hcne : c' ≠ s1.heap.objs.size := fun z => by rw [Heap.size_push] at hge; omega
    have nC : H1 c' = none := I1.hok.fresh hc1
    have hcP' : P ≠ c' := Nat.ne_of_lt (Nat.lt_of_lt_of_le hPlt hc1)
    refine main _ h' tk _ #[rawInt gpos.line, rawInt gpos.col, .ref c'] rfl hx (Nat.le_trans hge (Nat.le_of_lt hlt)) htab'.2 fun s' hb' hos hk1 hk3 => ?_
    have J := LamX.inv_table (t' := s'.toks) (more := #[rawInt gpos.line, rawInt gpos.col, .ref c']) (h' := s'.heap) I1 hP hk1 (hk3 P _ (Nat.ne_of_lt hPlt) htab'.2) hc1 ⟨oc, vs, t, hk3 c' oc hcne hoc, hd, hv⟩
    have J2 := J.step (h' := s'.heap) (g' := s'.gens) (t' := s'.toks) (d' := s'.drawn) (ch := []) (fun b hb => absurd hb (by simp)) (fun b o _ _ _ e n => e) (fun b o _ _ _ e n => ⟨o.slots, e⟩) (fun b o _ e n => n) (fun b o _ e => ⟨o, e⟩) (fun b xs e => e) (fun b o u e => e) (fun b qs e => ⟨#[], by rw [e]; simp⟩) (fun m hn => hn) J.hok hb'
    have es : ({ s1 with heap := s'.heap, gens := s'.gens, drawn := s'.drawn, toks := s'.toks } : Shared) = s' := GxR.sh_eta s1 s' hos
    have hE : LamX.ExtN H1 (upd (upd H1 P (.tbl (ps ++ #[rawInt gpos.line, rawInt gpos.col, .ref c']))) c' (LamX.CodeO c' (X.env.qual ++ ("<genexpr>" : Str)))) := fun b o e n => by
      rw [upd_ne (ne_of_none e nC), upd_ne (fun z => n ps (Option.some.inj (e.symm.trans (by rw [z]; exact hP))))]
      exact e
    have eL : (ps ++ #[rawInt gpos.line, rawInt gpos.col, .ref c']).toList = ps.toList ++ [rawInt gpos.line, rawInt gpos.col, .ref c'] := by simp
    refine ⟨_, hE, fun p hp => ?_, fun b hb o' ho' => ?_, es ▸ J2⟩
    · by_cases hb : p.1 = P
      · rw [hu p hp hb, hb]
        refine ⟨_, by rw [upd_ne hcP', upd_same], by rw [eL]; exact PySem.TriplesOk_snoc _ _ _ _ ht, fun p' cv hcv => ?_⟩
        rw [eL] at hcv
        rcases LamX.among_app _ ht hcv with z | z
        · obtain ⟨c0, e1, e2⟩ := hca p' cv z
          exact ⟨c0, e1, hE _ _ e2 LamX.codeO_ne⟩
        · exact ⟨c', z, upd_same⟩
      · obtain ⟨ps', a1, a2, a3⟩ := hT p hp
        refine ⟨ps', by rw [upd_ne (ne_of_none a1 nC), upd_ne hb]; exact a1, a2, fun p' cv hcv => ?_⟩
        obtain ⟨c0, e1, e2⟩ := a3 p' cv hcv
        exact ⟨c0, e1, hE _ _ e2 LamX.codeO_ne⟩
    · by_cases e1 : b = c'
      · rw [e1, upd_same] at ho'
        cases ho'
        rw [e1]
      · rw [upd_ne e1, upd_ne (fun z => by rw [z, hP] at hb; cases hb), hb] at ho'
        cases ho'
  | some cv =>
    refine wpAny_genexprCode_hit hcode (cd.code hP2 ht) hf ?_
    refine main cv (s1.heap.push o) s1.toks ps #[] (by simp) (Heap.ExtBut.refl _ _) (Nat.le_refl _) hP2 fun s' hb' hos hk1 hk3 => ?_
    have hkA : ∀ b u, s1.heap.get? b = some u → s'.heap.get? b = some u := fun b u e => hk3 b u (Nat.ne_of_lt (Heap.lt_size e)) (Heap.get?_push_of_some _ e)
    have J := I1.kept (h' := s'.heap) (t' := s'.toks) hkA
    have J2 := J.step (h' := s'.heap) (g' := s'.gens) (t' := s'.toks) (d' := s'.drawn) (ch := []) (fun b hb => absurd hb (by simp)) (fun b o _ _ _ e n => e) (fun b o _ _ _ e n => ⟨o.slots, e⟩) (fun b o _ e n => n) (fun b o _ e => ⟨o, e⟩) (fun b xs e => e) (fun b o u e => e) (fun b qs e => ⟨#[], by rw [e]; simp⟩) (fun m hn => hn) J.hok hb'
    have es : ({ s1 with heap := s'.heap, gens := s'.gens, drawn := s'.drawn, toks := s'.toks } : Shared) = s' := GxR.sh_eta s1 s' hos
    exact ⟨H1, LamX.ExtN.refl H1, hT, fun b hb o' ho' => (by rw [hb] at ho'; cases ho'), es ▸ J2⟩
end
end Qt

/-! are_below(values, many): all(is_below(value, many) for value in values) -/
namespace Qt
open PySem PySem.Spec PyProof.Rows L2 Pd Evl
def F_are_below : FnQ
  | [.list ds, .int n] => if ds.all noDict = true then some (.bool (ds.all (belowB n))) else none
  | [.tuple ds, .int n] => if ds.all noDict = true then some (.bool (ds.all (belowB n))) else none
  | _ => none
structure AbS (st : Stmt) : Prop where
  body : ∃ (p1 p2 p3 p4 p5 p6 p7 p8 p9 pr : Pos) (scope : Scope), defBody st = [.Return (some (.Call (.Name "all" p1) [.GeneratorExp (.Call (.Name "is_below" p2) [.Name "value" p3, .Name "many" p4] [] p5) [⟨.Name "value" p6, .Name "values" p7, [], 0⟩] scope p8] [] p9)) pr] ∧
    scope.kind = .function ∧ scope.isCoroutine = false ∧ (∀ y ∈ scope.names, y.2 ≠ .cell) ∧ scope.names.lookup (".0" : Str) = some NameKind.local ∧ scope.names.lookup ("value" : Str) = some .local ∧ scope.names.lookup ("many" : Str) = some .free ∧ scope.names.lookup ("is_below" : Str) = some .globalImplicit ∧ (∀ y ∈ scope.names, y.2 = .free → y.1 = ("many" : Str))
  sc : FnScope ["values", "many"] ["values", "many"] (defScope st)
  all : (defScope st).names.lookup ("all" : Str) = some .globalImplicit
  val : (defScope st).names.lookup ("values" : Str) = some .local
  many : (defScope st).names.lookup ("many" : Str) = some .cell
/-- is_below's place in the program -/
structure BelF (K : PySem.W.Frag) (mg : Str → Option Value) : Prop where
  ex : ∃ (st sti : Stmt) (f fi : Addr) (fd fdi : FuncData), Fun K "is_below" "is_below" st f fd ∧ Bel st ∧ L2.Binds K fd ["value", "many"] [] ∧ mg "is_below" = some (.ref f) ∧ IntF K mg sti fi fdi
section
variable {P : Program} {w : World} {K : PKt} {mg : Str → Option Value} {base : Heap}
theorem elt_below {X : Cx} {pins : List (Addr × Obj)} {σ : L2.St} {H1 : Hp} {s1 : Shared} {scope : Scope} {n : Int} {i : Nat} {p2 p3 p4 p5 : Pos} (I : Inv X pins σ H1 s1) (BF : BelF X.K X.mg) (M : Nm X.mg) (hσ : σ[i]? = some (some (.int n))) (hN : X.N[i]? = some ("many" : Str)) (hcell : X.env.scope.names.lookup ("many" : Str) = some .cell)
    (h1 : scope.kind = .function) (h2 : scope.names.lookup ("value" : Str) = some .local) (h3 : scope.names.lookup ("many" : Str) = some .free) (h4 : scope.names.lookup ("is_below" : Str) = some .globalImplicit) (hr : X.A.depth + 8 < recursionLimit) :
    EltD X s1.heap scope "value" (.Call (.Name "is_below" p2) [.Name "value" p3, .Name "many" p4] [] p5) (belowB n) := by
  intro cenv A' E' u d s₂ m₂ hs e0 hcl hdep b hcells tu hns hm
  obtain ⟨st, sti, f, fi, fd, fdi, F, Z, hb, hmg, FI⟩ := BF.ex
  obtain ⟨m, hn, hl⟩ := I.loc
  obtain ⟨w', r, lk⟩ := hl i "many" (.int n) hN hσ (.inr (.inl hcell))
  obtain ⟨t, rfl⟩ := (show ∃ t, w' = Value.int n t from r)
  have ko : ∀ {x : Str} {k : NameKind}, scope.names.lookup x = some k → cenv.kindOf x = some k := fun {x k} e => by
    show cenv.scope.names.lookup x = some k
    rw [hs]; exact e
  rcases lk with ⟨k', _⟩ | ⟨_, c, hc, hcv⟩
  · have k' : X.env.scope.names.lookup ("many" : Str) = some .local := k'
    rw [hcell] at k'
    cases k'
  · have hfree : (("many" : Str), NameKind.free) ∈ scope.names := PySem.mem_of_lookup h3
    obtain ⟨c2, hc2⟩ : ∃ c2, cenv.cells.lookup ("many" : Str) = some c2 := by
      rw [hcl]
      exact mem_lookup (cloFrom_has (cells := X.env.cells) (acc := []) hfree)
    have ec : c2 = c := by
      rw [hcl] at hc2
      rcases cloFrom_mem (PySem.mem_of_lookup hc2) with z | ⟨_, z⟩
      · cases z
      · rw [z, hc]
        rfl
    rw [ec] at hc2
    have he : starEach [.Name "value" p3, .Name "many" p4] cenv = (false, eval (.Name "value" p3) cenv) :: starEach [.Name "many" p4] cenv := by rfl
    have he2 : starEach [.Name "many" p4] cenv = (false, eval (.Name "many" p4) cenv) :: starEach [] cenv := by rfl
    refine wpAny_Call_Name_kw (q_glob e0 b (ko h4) hmg ?_)
    refine PySem.W.callWith_K (h₀ := X.base) b.mod.kin F.kp ?_ he (by rfl)
    rw [he]
    show wpAny _ _ (spliced ((false, eval (.Name "value" p3) cenv) :: backTo p5 (starEach [.Name "many" p4] cenv))) _ _ s₂
    refine Calls.spliced_cons (q_loc e0 (ko h2) hns hm ?_)
    rw [he2]
    show wpAny _ _ (spliced ((false, eval (.Name "many" p4) cenv) :: backTo p5 (starEach [] cenv))) _ _ s₂
    refine Calls.spliced_cons (wpAny_Name (wpAny_loadName_free e0.kind (ko h3) hc2 (hcells _ _ hcv) ?_))
    refine Calls.spliced_nil ⟨b.kin, ?_⟩
    exact q_is_below F Z FI M hb (by omega) b tu fun s' k => ⟨rfl, k⟩
theorem ok_are_below {st : Stmt} {f c Pt : Addr} {oc kV doc pm ct : Value} {od an : Option Addr} {osl : Array (Option Value)} (lk : K.K.lookup f = some ⟨oc, od, .func (PySem.W.fnOf "are_below" "are_below" (defArgs st) (defBody st) (defScope st) .none kV doc pm an (.ref c) ct), osl⟩) (hcd : PySem.W.codeIn K.K (.ref c) "are_below" = true)
    (hT0 : (Pt, ("are_below.<locals>.<genexpr>" : Str)) ∈ K.T) (hT1 : ∀ p ∈ K.T, p.1 = Pt → p.2 = ("are_below.<locals>.<genexpr>" : Str)) (TBc : LamX.TabB base mg c Pt) (BF : BelF K.K mg) (M : Nm mg) (hall : mg "all" = none) (Z : AbS st) :
    FnOk P w K.K mg base CX0 3 f (PySem.W.fnOf "are_below" "are_below" (defArgs st) (defBody st) (defScope st) .none kV doc pm an (.ref c) ct) ["values", "many"] (spQ K 2 F_are_below) := by
  refine fn_of lk hcd Z.sc (fun vs H Q E h => by obtain ⟨_, _, ds, _, _, _, h2, h3, _⟩ := h; exact h2.length.trans h3) (fun A outer s H vs Q E hr h => ?_)
  obtain ⟨p1, p2, p3, p4, p5, p6, p7, p8, p9, pr, scope, hbody, g1, g2, g3, g4, g5, g6, g7, g8⟩ := Z.body
  rw [hbody]
  have main : ∃ t, PSs (cxOf CX0 P w K.K mg base ["values", "many"] "are_below" (defScope st) f (.ref c) A outer s H E).nox [.Return (some (.Call (.Name "all" p1) [.GeneratorExp (.Call (.Name "is_below" p2) [.Name "value" p3, .Name "many" p4] [] p5) [⟨.Name "value" p6, .Name "values" p7, [], 0⟩] scope p8] [] p9)) pr] t ∧ t { nx := fun _ H2 => Q .non H2, rt := Q } (L2.start ["values", "many"] vs) H := by
    refine ⟨_, pss_one (ps_ret (pe_allD (X := (cxOf CX0 P w K.K mg base ["values", "many"] "are_below" (defScope st) f (.ref c) A outer s H E).nox) (T := K.T) (K := K) hr Z.all hall TBc rfl ⟨g1, g2, g3, g4, g5, fun y hy hk => ?_⟩ (pe_var (i := 0) rfl (.inl Z.val)) hT0 hT1 (fun v => by rfl) (by rfl) rfl)), ?_⟩
    · rw [g8 y hy hk]
      have q := PySem.W.cellsFrom_some (x := ("many" : Str)) (defScope st).names (s.heap.objs.size + 1) [] (.inl Z.many)
      exact Option.isSome_iff_exists.mp q
    · obtain ⟨hT, F, ds, d, hnt, hex, hds, hl, hf, hq⟩ := h
      cases hds with
      | nil => cases hl
      | @cons v0 vs1 d0 ds1 h0 t0 =>
        cases t0 with
        | nil => cases hl
        | @cons v1 vs2 d1 ds2 h1 t1 =>
          cases t1 with
          | cons _ _ => simp at hl
          | nil =>
            have go : ∀ {a : Addr} {xs : List V} {es : List PyData} {n : Int}, v0 = .ref a → (SqL K.K H a xs ∨ SqT K.K H a xs) → DqAll K F xs es → es.all noDict = true → v1 = .int n → d = .bool (es.all (belowB n)) → (fun σ H Q => tVar 0 σ H fun v H1 => ∃ (a : Addr) (xs : List V) (F : Hp) (ds : List PyData) (pb : PyData → Bool), v = .ref a ∧ (SqL K.K H1 a xs ∨ SqT K.K H1 a xs) ∧ Ex F H1 ∧ DqAll K F xs ds ∧ (∀ d ∈ ds, noDict d = true) ∧ LamX.Tabs K.T H1 ∧
        (∀ (pins : List (Addr × Obj)) (s1 : Shared), Inv (cxOf CX0 P w K.K mg base ["values", "many"] "are_below" (defScope st) f (.ref c) A outer s H E).nox pins σ H1 s1 → EltD (cxOf CX0 P w K.K mg base ["values", "many"] "are_below" (defScope st) f (.ref c) A outer s H E).nox s1.heap scope "value" (.Call (.Name "is_below" p2) [.Name "value" p3, .Name "many" p4] [] p5) pb) ∧ ∀ H2, LamX.ExtN H1 H2 → LamX.Tabs K.T H2 → (∀ b, H1 b = none → ∀ o, H2 b = some o → o = LamX.CodeO b ((cxOf CX0 P w K.K mg base ["values", "many"] "are_below" (defScope st) f (.ref c) A outer s H E).nox.env.qual ++ ("<genexpr>" : Str))) → Q (.bl (ds.all pb)) H2) (L2.start ["values", "many"] [v0, v1]) H Q := by
              intro a xs es n e0 hs he hn e1 ed
              subst e0 e1 ed
              refine ⟨.ref a, rfl, a, xs, F, es, belowB n, rfl, hs, hex, he, fun d hd => List.all_eq_true.mp hn d hd, hT, fun pins s1 I => elt_below (i := 1) I BF M rfl rfl Z.many g1 g5 g6 g7 (by have := hr.dp; show A.depth + 1 + 8 < _; simp [Around.deeper] at this; omega), fun H2 x1 x2 x3 => ?_⟩
              exact hq _ F H2 ⟨Ex.refl F, fun b o hb => x1 b o (hex b o hb) (fun ps z => by rw [z] at hb; exact hnt b ps hb), fun b o hb hk _ => x1 b o hb hk, fun b hb _ _ => hb, fun _ => x2, id⟩ (.bl _)
            unfold F_are_below at hf
            split at hf
            · rename_i heq
              cases heq
              split at hf
              · rename_i hn
                cases hf
                cases h1 with
                | int n =>
                  cases h0 with
                  | lst ha hs => exact go rfl (.inl (SqL.of (hex _ _ ha))) hs hn rfl rfl
              · cases hf
            · rename_i heq
              cases heq
              split at hf
              · rename_i hn
                cases hf
                cases h1 with
                | int n =>
                  cases h0 with
                  | tup ha hs => exact go rfl (.inr (ha.sq hex)) hs hn rfl rfl
              · cases hf
            · cases hf
  obtain ⟨t, h1, h2⟩ := main
  exact ⟨t, h1.nox, h2⟩
end
end Qt

namespace Pd
open PySem L2 Evl
section
variable {P : Program} {w : World} {K : PKt} {mg : Str → Option Value} {base : Heap} {CX : CXT} {k n : Nat} {f : Addr} {fd : FuncData} {ps : List Str} {ec : EC}
/-- without fuel nothing is promised -/
theorem fnok_Q : FnOk P w K.K mg base CX k f fd ps (spQ K n fun _ => none) :=
  ⟨fun vs H Q E h => (by obtain ⟨_, _, _, _, _, _, _, _, z, _⟩ := h; cases z), fun _ _ _ _ _ _ vs Q E _ _ _ _ h => by obtain ⟨_, _, _, _, _, _, _, _, z, _⟩ := h; cases z⟩
theorem fnok_E : FnOk P w K.K mg base CX k f fd ps (spE K ec n fun _ => none) :=
  ⟨fun vs H Q E h => (by obtain ⟨_, _, _, _, _, _, _, _, z, _⟩ := h; cases z), fun _ _ _ _ _ _ vs Q E _ _ _ _ h => by obtain ⟨_, _, _, _, _, _, _, _, z, _⟩ := h; cases z⟩
theorem fnok_N : FnOk P w K.K mg base CX k f fd ps (spN K n fun _ => none) :=
  ⟨fun vs H Q E h => (by obtain ⟨_, _, _, _, _, _, _, _, z, _⟩ := h; cases z), fun _ _ _ _ _ _ vs Q E _ _ _ _ h => by obtain ⟨_, _, _, _, _, _, _, _, z, _⟩ := h; cases z⟩
theorem fnok_B : FnOk P w K.K mg base CX k f fd ps (spB K n fun _ _ => none) :=
  ⟨fun vs H Q E h => (by obtain ⟨_, _, _, _, _, _, _, _, _, _, _, _, _, _, _, _, _, z, _⟩ := h; cases z), fun _ _ _ _ _ _ vs Q E _ _ _ _ h => by obtain ⟨_, _, _, _, _, _, _, _, _, _, _, _, _, _, _, _, _, z, _⟩ := h; cases z⟩
end
end Pd

/-! lambdas that are kept: as things of the heap -/
namespace PLam
open PySem PySem.Spec PyProof.Rows L2 LamX
/-- a lambda without parameters, made by a def: its object stands at f -/
def LamO (f c' : Addr) (q : Str) (params : Arguments) (body : Expr) (scope : Scope) (clo : List (Str × Addr)) : HO :=
  .ext fun h => ∃ pm ctv : Value, h.get? f = some (PySem.W.kla_obj "<lambda>" q params body scope clo pm c' ctv)
theorem lamO_ne {f c' : Addr} {q : Str} {params : Arguments} {body : Expr} {scope : Scope} {clo : List (Str × Addr)} (ps : Array Value) : LamO f c' q params body scope clo ≠ .tbl ps := fun z => by
  unfold LamO at z
  cases z
theorem tabs_lam {T : List (Addr × Str)} {H : Hp} {p : Addr} {o : HO} (hp : H p = Option.none) (t : Tabs T H) : Tabs T (L2.upd H p o) := t.ext fun b u h => by rw [L2.upd_ne (L2.ne_of_none h hp)]; exact h
section
variable {X : Cx} {pins : List (Addr × Obj)} {σ : L2.St} {H : Hp} {s : Shared}
theorem lam_makeV {T : List (Addr × Str)} {c P : Addr} {params : Arguments} {body : Expr} {scope : Scope} {pos : Pos} {E : Value → Shared → Prop} {Q : Value → Shared → Prop} (I : Inv X pins σ H s) (TB : TabB X.base X.mg c P) (hcode : X.env.code = .ref c)
    (hm : (P, X.env.qual ++ "<lambda>") ∈ T) (hu : ∀ p ∈ T, p.1 = P → p.2 = X.env.qual ++ "<lambda>") (hT : Tabs T H) (hdef : defaultsOf params X.env = ([], [])) (hfree : ∀ y ∈ scope.names, y.2 = .free → ∃ c, X.env.cells.lookup y.1 = some c)
    (h : ∀ (f c' : Addr) (H1 : Hp) (s' : Shared), Inv X pins σ (upd H1 f (LamO f c' (X.env.qual ++ "<lambda>") params body scope (cloFrom X.env.cells scope.names []))) s' → ExtN H H1 → Tabs T H1 → H1 f = none → H1 c' = some (CodeO c' (X.env.qual ++ "<lambda>")) → Q (.ref f) s') :
    wpAny (model X.prog X.w) X.A (eval (.Lambda params body scope pos) X.env) Q E s := by
  obtain ⟨ps, hP, ht, ha⟩ := hT _ hm
  refine PySem.W.kla_eval hdef ?_
  have bP : s.heap.BuiltinsAt X.mg P := TB.bm.keeps I.bk
  have hP' : s.heap.get? P = some { cls := .none, data := .fields ps } := I.hok P _ hP
  have new : ∀ (H1 : Hp) (h' : Heap) (c' : Addr) (pm ctv : Value), ObjOk X.prog X.w (upd H1 h'.objs.size (LamO h'.objs.size c' (X.env.qual ++ "<lambda>") params body scope (cloFrom X.env.cells scope.names []))) (h'.push (PySem.W.kla_obj "<lambda>" (X.env.qual ++ "<lambda>") params body scope (cloFrom X.env.cells scope.names []) pm c' ctv)) h'.objs.size (LamO h'.objs.size c' (X.env.qual ++ "<lambda>") params body scope (cloFrom X.env.cells scope.names [])) := fun H1 h' c' pm ctv => by
    refine ⟨⟨pm, ctv, Heap.get?_push_size _ rfl⟩, ⟨_, Heap.get?_push_size _ rfl⟩, fun h1 h2 ⟨pm', ctv', e⟩ st => ⟨pm', ctv', st _ e⟩⟩
  cases hc : codeAmong pos ps.toList with
  | none =>
    refine PySem.W.kla_makeFunction (mg := X.mg) (c := c) (P := P) (ps := ps) (closure_ok hfree) I.ok.glob (I.mod.glob.keeps I.bk) hcode (TB.code.keeps I.bk) hP' ht hc TB.gP bP fun c' ctv h' tk hx hge hlt hrec htb => ?_
    obtain ⟨c2, oc, vs, t, e2, hoc, hd, hv⟩ := hrec
    cases e2
    have hsz : s.heap.objs.size ≤ h'.objs.size := Nat.le_trans hge (Nat.le_of_lt hlt)
    have nC : H c' = none := I.hok.fresh hge
    have I0 := inv_table (t' := tk) (more := #[rawInt pos.line, rawInt pos.col, .ref c']) (h' := h') (q := X.env.qual ++ "<lambda>") I hP (fun b o hb e => hx b o hb e) htb hge ⟨oc, vs, t, hoc, hd, hv⟩
    have I1 := I0.laid (t' := tk) (h' := h'.push (PySem.W.kla_obj "<lambda>" (X.env.qual ++ "<lambda>") params body scope (cloFrom X.env.cells scope.names []) ((X.mg "__name__").getD .none) c' ctv)) (fun b o e => Heap.get?_push_of_some _ e) (Nat.le_refl _) (new _ h' c' _ ctv)
    have hE : ExtN H (upd (upd H P (.tbl (ps ++ #[rawInt pos.line, rawInt pos.col, .ref c']))) c' (CodeO c' (X.env.qual ++ "<lambda>"))) := fun b o e n => by
      rw [upd_ne (ne_of_none e nC), upd_ne (fun z => n ps (Option.some.inj (e.symm.trans (by rw [z]; exact hP))))]
      exact e
    have eL : (ps ++ #[rawInt pos.line, rawInt pos.col, .ref c']).toList = ps.toList ++ [rawInt pos.line, rawInt pos.col, .ref c'] := by simp
    refine h h'.objs.size c' _ _ I1 hE (fun p hp => ?_) ?_ upd_same
    · by_cases hb : p.1 = P
      · rw [hu p hp hb, hb]
        refine ⟨_, by rw [upd_ne (ne_of_none hP nC), upd_same], by rw [eL]; exact PySem.TriplesOk_snoc _ _ _ _ ht, fun p' cv hcv => ?_⟩
        rw [eL] at hcv
        rcases among_app _ ht hcv with z | z
        · obtain ⟨c0, e1, e2⟩ := ha p' cv z
          exact ⟨c0, e1, hE _ _ e2 codeO_ne⟩
        · exact ⟨c', z, upd_same⟩
      · obtain ⟨ps', a1, a2, a3⟩ := hT p hp
        refine ⟨ps', by rw [upd_ne (ne_of_none a1 nC), upd_ne hb]; exact a1, a2, fun p' cv hcv => ?_⟩
        obtain ⟨c0, e1, e2⟩ := a3 p' cv hcv
        exact ⟨c0, e1, hE _ _ e2 codeO_ne⟩
    · have n1 : h'.objs.size ≠ c' := Nat.ne_of_gt hlt
      have n2 : h'.objs.size ≠ P := Nat.ne_of_gt (Nat.lt_of_lt_of_le (Heap.lt_size hP') hsz)
      rw [upd_ne n1, upd_ne n2]
      exact I.hok.fresh hsz
  | some cv =>
    obtain ⟨c', e, hco⟩ := ha pos cv hc
    subst e
    refine PySem.W.kla_makeFunctionHit (mg := X.mg) (c := c) (P := P) (ps := ps) (closure_ok hfree) I.ok.glob (I.mod.glob.keeps I.bk) hcode (TB.code.keeps I.bk) hP' ht hc bP fun ctv h' tk hx hsz => ?_
    have I0 : Inv X pins σ H { s with heap := h', toks := tk } := I.kept hx
    have I1 := I0.laid (t' := tk) (h' := h'.push (PySem.W.kla_obj "<lambda>" (X.env.qual ++ "<lambda>") params body scope (cloFrom X.env.cells scope.names []) ((X.mg "__name__").getD .none) c' ctv)) (fun b o e => Heap.get?_push_of_some _ e) (Nat.le_refl _) (new _ h' c' _ ctv)
    exact h h'.objs.size c' H _ I1 (ExtN.refl H) hT (I.hok.fresh hsz) hco
/-- what the making of a lambda gives -/
def tLamV (T : List (Addr × Str)) (q : Str) (params : Arguments) (body : Expr) (scope : Scope) (clo : List (Str × Addr)) : TE := fun _ H Q =>
  Tabs T H ∧ ∀ (f c' : Addr) (H1 : Hp), ExtN H H1 → Tabs T H1 → H1 f = none → H1 c' = some (CodeO c' q) → Q (.ref f) (upd H1 f (LamO f c' q params body scope clo))
theorem pe_lamV {T : List (Addr × Str)} {c P : Addr} {params : Arguments} {body : Expr} {scope : Scope} {pos : Pos} (TB : TabB X.base X.mg c P) (hcode : X.env.code = .ref c)
    (hm : (P, X.env.qual ++ "<lambda>") ∈ T) (hu : ∀ p ∈ T, p.1 = P → p.2 = X.env.qual ++ "<lambda>") (L : LamS X.env.scope scope) (hdef : defaultsOf params X.env = ([], [])) :
    PE X (.Lambda params body scope pos) (tLamV T (X.env.qual ++ "<lambda>") params body scope (cloFrom X.env.cells scope.names [])) := by
  refine ⟨fun pins s σ H Q I h => ?_⟩
  obtain ⟨hT, h⟩ := h
  refine lam_makeV I TB hcode hm hu hT hdef (L.has I.ok) fun f c' H1 s' I1 eN T1 hf hco => ?_
  exact ⟨.ref f, _, I1, rfl, h f c' H1 eN T1 hf hco⟩
/-- x(), in the def that got the lambda: the lambda is a thing of the heap -/
theorem pe_act2 {CXg : CXT} {Eg : XK} {Ng : List Str} {qg : Str} {sg : Scope} {g f c' : Addr} {cdg : Value} {params : Arguments} {body : Expr} {scope : Scope} {k i : Nat} {a : Str} {pn : List (Addr × Obj)} {xe : Value → Shared → Prop} {W : WX} {E : XK} {tb : TE} {p1 p2 : Pos}
    (I : Inv X pins σ H s) (L : LamS X.env.scope scope)
    (hbind : ∀ pm ctv : Value, bindArgs (PySem.W.kla_fn "<lambda>" (X.env.qual ++ "<lambda>") params body scope (cloFrom X.env.cells scope.names []) pm (.ref c') ctv) ⟨[], []⟩ = pure [])
    (tk : Takes ((cxOf CXg X.prog X.w X.K X.mg X.base Ng qg sg g cdg X.A X.stack s H Eg).tr pn xe) W) (hW : ∀ cls d σ' H', E cls d H' → W cls d σ' H') (hr : Room (k + 1) (X.A.deeper (envOfC qg sg s.heap.objs.size g cdg)))
    (hbody : ∀ (A : Around) (outer : List Env) (s : Shared) (H : Hp), Room k (A.deeper (lamEnv X scope s.heap.objs.size f c')) → PE (lamCx X A outer s H E scope f c') body tb)
    (hN : Ng[i]? = some a) (hv : Vis sg a) (hd : (a == ("__debug__" : Str)) = false := by decide) (hcd : (a == ("__classdict__" : Str)) = false := by decide) :
    PE ((cxOf CXg X.prog X.w X.K X.mg X.base Ng qg sg g cdg X.A X.stack s H Eg).tr pn xe) (.Call (.Name a p1) [] [] p2)
      (fun σZ HZ Q => σZ[i]? = some (some (.ref f)) ∧ HZ c' = some (CodeO c' (X.env.qual ++ "<lambda>")) ∧ HZ f = some (LamO f c' (X.env.qual ++ "<lambda>") params body scope (cloFrom X.env.cells scope.names [])) ∧ tb σ HZ Q) := by
  refine ⟨fun pinsZ sZ σZ HZ Q IZ h => ?_⟩
  obtain ⟨hs, hc, hl, ht⟩ := h
  refine wpAny_Call_Name_kw (thn ((pe_var (pos := p1) (i := i) hN hv hd hcd).run pinsZ sZ σZ HZ (fun v H1 => v = .ref f ∧ H1 = HZ) IZ ⟨.ref f, hs, rfl, rfl⟩) fun u s1 ⟨v, H1, I1, r1, q1⟩ => ?_)
  obtain ⟨ev, eH⟩ := q1
  subst ev
  rw [eH] at I1
  obtain rfl : u = Value.ref f := r1
  obtain ⟨⟨pm, ctv, of1⟩, _, _⟩ := I1.hok f _ hl
  refine PySem.W.callWith_F0 ⟨_, _, _, _, of1⟩ ?_
  have un : Un (frs X.stack) [] H HZ s.heap s1.heap := I1.base
  obtain ⟨⟨oc, vs, t, hoc, hdc, hvc⟩, _, _⟩ := I1.hok c' _ hc
  have rc : codeAny (model X.prog X.w) (X.A.deeper (envOfC qg sg s.heap.objs.size g cdg)) (.call (.ref f) ⟨[], []⟩) (CR (L2.CX X.prog X.w) (envOfC qg sg s.heap.objs.size g cdg :: X.stack) X.prog X.w HZ s1 Q E) s1 := by
    refine PySem.W.kla_callFunE hr.depth of1 rfl L.co L.gen rfl ⟨c', oc, vs, t, rfl, hoc, hdc, hvc⟩ ?_
    rw [hbind]
    refine wpAny_pure (wpAny_newFunctionEnv (fun y hy => (L.own y hy).2) (fun y hy => absurd hy (by simp)) (fun h₁ hns hsb => ⟨I1.nolimit.fresh _ hsb, ?_⟩) L.kind)
    show codeAny _ _ (.expr body (lamEnv X scope s1.heap.objs.size f c')) _ _
    have kp : ∀ b o, s1.heap.get? b = some o → h₁.get? b = some o := fun b o e => hsb.extBut b o (Nat.ne_of_lt (Heap.lt_size e)) (Heap.get?_push_of_some _ e)
    have J : Inv (lamCx X (X.A.deeper (envOfC qg sg s.heap.objs.size g cdg)) (envOfC qg sg s.heap.objs.size g cdg :: X.stack) s1 HZ E scope f c') [] σ HZ { s1 with heap := h₁, toks := s1.toks + ([] : List (Str × Value)).length } :=
      lam_start2 I L I1.env0 hr.hd un hns kp
    refine PySem.W.kla_codeExpr (wpAny_mono ((hbody _ _ s1 HZ (hr.deeper _)).run [] _ _ HZ Q J ht) (fun v s' hq => ?_) fun e s' hq => hq)
    obtain ⟨w', H', J', rv, q⟩ := hq
    exact ⟨w', H', J'.os, J'.bare, J'.base, J'.hok, rv, q⟩
  have hx : Passes (L2.CX X.prog X.w) ((cxOf CXg X.prog X.w X.K X.mg X.base Ng qg sg g cdg X.A X.stack s H Eg).tr pn xe) E := passes_call tk hW
  refine wpAny_call (codeAny_mono rc fun r s' hq => ?_)
  cases r with
  | error e => exact hx pinsZ σZ HZ s1 e s' I1 hq
  | ok fl =>
    cases fl with
    | ret u => exact I1.after hq
    | next => exact False.elim hq
    | brk => exact False.elim hq
    | cont => exact False.elim hq
/-- the lambdas of a def: j's words, with the maker's cells -/
abbrev LamJ (X : Cx) (pa : Nat → Arguments) (bo : Nat → Expr) (sc : Nat → Scope) (j : Nat) (f c' : Addr) : HO := LamO f c' (X.env.qual ++ "<lambda>") (pa j) (bo j) (sc j) (cloFrom X.env.cells (sc j).names [])
def tHeard (lo : Nat → Addr → Addr → HO) (q : Str) (n : Nat) (TT : (XK → Hp → VK → Prop) → Hp → VK → Prop) (te : TE) (t : Nat → XK → TE) : TE := fun σ H Q =>
  te σ H fun v H1 => ∃ (f c' : Addr) (j : Nat), j < n ∧ v = .ref f ∧ H1 f = some (lo j f c') ∧ H1 c' = some (CodeO c' q) ∧ TT (fun E H' Q' => H' f = some (lo j f c') ∧ t j E σ H' Q') H1 Q
/-- x(e), e a lambda that was kept -/
theorem pe_heard {TT : (XK → Hp → VK → Prop) → Hp → VK → Prop} {x a : Str} {g : Addr} {k n : Nat} {pg : Arguments} {bg : List Stmt} {sg : Scope} {dV kV doc pm cdv ct oc : Value} {an od : Option Addr} {osl : Array (Option Value)} {Ng : List Str}
    {pa : Nat → Arguments} {bo : Nat → Expr} {sc : Nat → Scope} {t : Nat → XK → TE} {te : TE} {y : Str} {p p3 pos : Pos} (hg : Gl X x) (hm : X.mg x = some (.ref g)) (hk : PySem.W.keepIn X.K (.ref g) = true)
    (lk : X.K.lookup g = some ⟨oc, od, .func (PySem.W.fnOf x x pg bg sg dV kV doc pm an cdv ct), osl⟩) (hcg : PySem.W.codeIn X.K cdv x = true) (hb : L2.Binds X.K (PySem.W.fnOf x x pg bg sg dV kV doc pm an cdv ct) [a] []) (Sg : FnScope Ng [a] sg) (hNg : Ng[0]? = some a) (hva : Vis sg a)
    (hG : GivesTo X Ng x sg g cdv bg a (X.env.qual ++ "<lambda>") TT) (he : PE X (.Name y p3) te)
    (hr : Room (k + 2) X.A) (L : ∀ j, j < n → LamS X.env.scope (sc j))
    (hbind : ∀ j, j < n → ∀ (q : Str) (cl : List (Str × Addr)) (pm cv ctv : Value), bindArgs (PySem.W.kla_fn "<lambda>" q (pa j) (bo j) (sc j) cl pm cv ctv) ⟨[], []⟩ = pure [])
    (hbody : ∀ j, j < n → ∀ (A : Around) (outer : List Env) (s : Shared) (H : Hp) (E : XK) (f c' : Addr), Room k (A.deeper (lamEnv X (sc j) s.heap.objs.size f c')) → PE (lamCx X A outer s H E (sc j) f c') (bo j) (t j E))
    (hdb : (x == ("__debug__" : Str)) = false := by decide) (hd : (a == ("__debug__" : Str)) = false := by decide) (hcd : (a == ("__classdict__" : Str)) = false := by decide) :
    PE X (.Call (.Name x p) [.Name y p3] [] pos) (tHeard (LamJ X pa bo sc) (X.env.qual ++ "<lambda>") n TT te t) := by
  refine ⟨fun pins s σ H Q I h => ?_⟩
  refine wpAny_Call_Name_kw (ld_glob I hg hm ?_ hdb)
  refine PySem.W.callWith_K (h₀ := X.base) I.ok.mod.kin hk ?_ (by rfl) (by rfl)
  show wpAny _ _ (spliced ((false, eval (.Name y p3) X.env) :: backTo pos (starEach [] X.env))) _ _ s
  refine Calls.spliced_cons (thn (he.run pins s σ H _ I h) fun u s' ⟨v, H1, I1, r1, q1⟩ => ?_)
  obtain ⟨f, c', j, hj, ev, hl, hco, hq⟩ := q1
  subst ev
  obtain rfl : u = Value.ref f := r1
  refine Calls.spliced_nil ⟨I1.kIn, ?_⟩
  have rc : codeAny (model X.prog X.w) X.A (.call (.ref g) ⟨[.ref f], []⟩) (CR C8.CX0 X.stack X.prog X.w H1 s' Q C8.E0) s' := by
    refine run_ofS (N := Ng) (ps := [a]) (us := [.ref f]) (vs := [.ref f]) lk hcg Sg hr I1.env0 (hb s' [.ref f] I1.kIn rfl) (.cons rfl .nil) rfl fun hr' => ?_
    obtain ⟨t', ht', hq'⟩ := hG f c' s' H1 Q (fun E H' Q' => H' f = some (LamJ X pa bo sc j f c') ∧ t j E σ H' Q') (fun W pn xe E p1 p2 tk hW => pe_act2 (i := 0) I1 (L j hj) (hbind j hj _ _ · _ ·) tk hW hr' (fun A outer s H hr2 => hbody j hj A outer s H E f c' hr2) hNg hva hd hcd) hco hq
    exact ⟨t', ht'.nox, hq'⟩
  refine wpAny_call (codeAny_mono rc fun r s2 hq => ?_)
  cases r with
  | error e => exact (show False from hq).elim
  | ok fl =>
    cases fl with
    | ret u => exact I1.after hq
    | next => exact False.elim hq
    | brk => exact False.elim hq
    | cont => exact False.elim hq
end
end PLam

/-! lambdas that are kept, as data -/
namespace Pd
open PySem L2 Evl
abbrev lamD (j : Nat) : PyData := .dict [(.bool true, .int (j : Int))]
section
variable {K : PKt} {ec : EC} {W : WX} {σ : L2.St} {ρ : Rho} {F H : Hp}
/-- what is told by its heap alone may be frozen at any time -/
theorem RS.code (rs : RS K F H σ ρ) {c : Addr} {φ : Heap → Prop} (hc : H c = some (.ext φ)) : ∃ F1, Nx K σ ρ ρ F H F1 H ∧ F1 c = some (.ext φ) := by
  cases hF : F c with
  | some o =>
    have := rs.ex c o hF
    rw [hc] at this
    cases this
    exact ⟨F, Nx.refl rs, hF⟩
  | none =>
    have no : ¬ Ow σ ρ c := fun ⟨i, t, ds, h1, h2⟩ => by
      obtain ⟨b, vs, e1, e2, e3, e4⟩ := rs.own i t ds h1
      rw [h2] at e1; cases e1
      rw [hc] at e3; cases e3
    have r1 := rs.freeze (o := .ext φ) (fun ps z => by cases z) hc hF no
    refine ⟨upd F c (.ext φ), ⟨r1, ⟨Ex.new hF, r1.ex, fun a o h _ _ => h, fun a h1 h2 _ => ?_, id, fun h => h.upd fun ps z => by cases z⟩, fun _ _ ds h => ⟨ds, h⟩, fun _ h => h⟩, upd_same⟩
    rw [upd_ne fun e => ?_]
    · exact h1
    · obtain ⟨o, g1, _, g3⟩ := h2
      rw [e, hc] at g1
      cases g1
      exact g3 φ rfl
theorem ed_lamV {params : Arguments} {body : Expr} {scope : Scope} {clo : List (Str × Addr)} {j : Nat} (hj : j < K.ln) (ho : ∀ f c, K.lo j f c = PLam.LamO f c K.lq params body scope clo) :
    Ed K ec W (PLam.tLamV K.T K.lq params body scope clo) (conM (lamD j)) := by
  intro F H σ ρ o rs e Q q hf
  cases e
  refine ⟨rs.tab, fun f c' H1 x tb hf1 hc => ?_⟩
  have n1 := rs.extN x tb
  obtain ⟨F1, n2, hF1⟩ := n1.rs.code (c := c') hc
  have n3 := n2.rs.new (p := f) (o := PLam.LamO f c' K.lq params body scope clo) hf1 PLam.lamO_ne
  refine q (lamD j) ρ rfl (.ref f) _ _ (n1.trans (n2.trans n3)) (.lam hj (c := c') ?_ ?_)
  · rw [upd_same, ho]
  · rw [upd_ne (ne_of_none hc hf1)]
    exact hF1
def heardM (hs : DH) (fs : Nat → DE) (f : DE) : DE := fun ρ => bnd (f ρ) fun d ρ1 => match d with
  | .dict [(.bool true, .int (.ofNat j))] => toldM hs (fs j) ρ1
  | _ => none
theorem ed_heard {n : Nat} {l : List Cls} {hs : DH} {te : TE} {f : DE} {t : Nat → XK → TE} {fs : Nat → DE} (he : Ed K ec W te f) (hb : ∀ j, j < K.ln → ∀ E : XK, Ed K ec (fun cls d _ H => E cls d H) (t j E) (fs j)) (hr : Hres K ec n l hs) :
    Ed K ec W (PLam.tHeard K.lo K.lq K.ln (TTh K n l) te t) (heardM hs fs f) := by
  intro F H σ ρ o rs e Q q hf
  unfold heardM at e
  refine he.go rs e hf fun d ρ1 v F1 H1 n1 dv e1 hf1 => ?_
  split at e1
  · rename_i j
    generalize hd : PyData.dict [(PyData.bool true, PyData.int (Int.ofNat j))] = dd at dv
    cases dv with
    | @lam f c j' hj h1 h2 =>
      have hjj : j = j' := by
        injection hd with hd
        injection hd with hd _
        injection hd with _ hd
        injection hd with hd
        exact Int.ofNat.inj hd
      subst hjj
      refine ⟨f, c, j, hj, rfl, n1.rs.ex _ _ h1, n1.rs.ex _ _ h2, n1.rs.ex _ _ h1, ?_⟩
      unfold toldM at e1
      cases ef : fs j ρ1 with
      | none => rw [ef] at e1; cases e1
      | some oo =>
        rw [ef] at e1
        refine hb j hj _ F1 H1 σ ρ1 oo n1.rs ef Q (fun d ρ' eo v F' H' m dv => ?_) fun c d ρ' eo cls dd F' H' m xr => ?_
        · subst eo
          cases e1
          exact q d ρ' rfl v F' H' (n1.trans m) dv
        · subst eo
          intro σ' hl
          have e' : ((hs c d).map fun r => (.ok r ρ' : Ou PyData)) = some o := e1
          cases eh : hs c d with
          | none => rw [eh] at e'; cases e'
          | some r =>
            rw [eh] at e'
            cases e'
            exact hr c d r cls dd F' H' σ' hl m.rs.ex xr eh _ _ (fun u du => q r ρ' rfl u F' H' (n1.trans m) du) fun p ob nt hp dp => q r ρ' rfl (.ref p) _ _ ((n1.trans m).trans (m.rs.new hp nt)) dp
    | scr _ _ => cases hd
    | _ => cases hd
  · cases e1
end
end Pd

/-! a comprehension over a list whose tests may know the def's own state -/
namespace PLam
open PySem PySem.Spec PyProof.Rows L2
section
variable {X : Cx}
/-- the block is left, or asked from outside: the def's own state holds there -/
theorem blk_back {pins ps : List (Addr × Obj)} {σ τ : L2.St} {H G : Hp} {s t : Shared} {scope : Scope} {en : Env} {fp : List Addr} (I : Inv X pins σ H s) (hf : ∀ b ∈ fp, FpOk X pins H b) (J : Inv (X.blk s H scope en fp) ps τ G t) : Inv X pins σ G t :=
  I.call' (ch := fp) J.os J.base J.hok J.bare fun b hb =>
    have k := hf b hb
    ⟨k.2.2.2.1, k.2.1, k.2.2.2.2.1, k.2.2.2.2.2⟩
theorem pe_lcI {elt tg iter : Expr} {ifs : List Expr} {scope : Scope} {own : List (Str × Nat)} {pos : Pos} {wi : TI} {g : TG} {tt : TT} {te : TE} (calm : X.calm = true) (nod : X.N.Nodup) (pi : PI X tg iter wi) (blk : BlkOk X.N X.env.scope scope own)
    (kg : ∀ (s : Shared) (H : Hp) (C : Addr) (cl : List (Str × Addr)) (fp : List Addr), PG (X.blk s H scope (compEnvC scope cl C X.env) fp) tg g)
    (kt : ∀ (pins : List (Addr × Obj)) (s : Shared) (σ τ : L2.St) (H : Hp) (C : Addr) (cl : List (Str × Addr)) (fp : List Addr), Inv X pins σ H s → (∀ b ∈ fp, FpOk X pins H b) → wipe τ (own.map (·.2)) = wipe σ (own.map (·.2)) →
      PTs (X.blk s H scope (compEnvC scope cl C X.env) fp) ifs fun τ' H' Q => τ' = τ ∧ tt τ' H' Q)
    (ke : ∀ (s : Shared) (H : Hp) (C : Addr) (cl : List (Str × Addr)) (fp : List Addr), PE (X.blk s H scope (compEnvC scope cl C X.env) fp) elt te) (fold : ∀ x, foldedSetIterable iter X.env x = pure x := by intro _; rfl) :
    PE X (.ListComp elt [⟨tg, iter, ifs, 0⟩] scope pos) (tLc wi g tt te (own.map (·.2))) := by
  refine ⟨fun pins s σ H Q I0 read => ?_⟩
  rw [eval_ListComp]
  have frees : ∀ y ∈ scope.names, y.2 = .free → ∃ c, X.env.cells.lookup y.1 = some c := fun y hy e => (blk.free y hy e).elim (fun k => I0.ok.has _ (.inl k)) fun k => I0.ok.has _ (.inr k)
  refine wpAny_comprehension_free rfl fold (closure_ok frees) blk.kind (fun y hy e => by rw [blk.uniq y hy, e]) (thn (pi.run pins s σ H _ I0 read) fun _ _ asked => thn asked fun itv sa got => ?_)
  obtain ⟨it, fp, tn, J, Ha, rfl, Ia, T, sta, fpa, more⟩ := got
  refine wpAny_newObj_type (newEnv_comp ?_) (by show 0 ≤ sizeLine; decide)
  obtain ⟨D, hD⟩ : ∃ D, D = sa.heap.objs.size := ⟨_, rfl⟩
  obtain ⟨W, ⟨m0, w0⟩, turns⟩ := more D (Ia.hok.fresh (Nat.le_of_eq hD.symm))
  -- the list that is made
  obtain ⟨sb, hsb⟩ : ∃ sb : Shared, sb = { sa with heap := sa.heap.push { cls := .type "list", data := .seq ([] : List Value).toArray } } := ⟨_, rfl⟩
  have hb : sb.heap = sa.heap.push { cls := .type "list", data := .seq ([] : List Value).toArray } := by rw [hsb]
  have Ib : Inv X pins σ (upd Ha D (.lst [])) sb := by
    rw [hsb]
    exact Ia.laid (t' := sa.toks) (fun b o e => Heap.get?_push_of_some _ e) (Nat.le_of_eq hD.symm) ⟨Nat.zero_le _, [], 0, .nil, by rw [hD]; exact Heap.get?_push_size _ rfl⟩
  have low : ∀ b ∈ fp, b < sa.heap.objs.size := fun b hm => by
    obtain ⟨o, e, _⟩ := T.obj _ _ sta b hm
    exact Heap.lt_size e
  have fpb : ∀ b ∈ fp, FpOk X pins (upd Ha D (.lst [])) b ∧ b < sb.heap.objs.size := fun b hm => by
    have l := low b hm
    refine ⟨⟨by rw [upd_ne (by rw [hD]; exact Nat.ne_of_lt l)]; exact (fpa b hm).1, (fpa b hm).2⟩, by rw [hb, Heap.size_push]; exact Nat.lt_succ_of_lt l⟩
  have stb : tn 0 sb.heap := T.keep _ _ _ sta fun b _ o e => by rw [hb]; exact Heap.get?_push_of_some _ e
  have Ic := block_start Ib blk nod fpb
  have qg := kg sb (upd Ha D (.lst [])) sb.heap.objs.size (cellsFrom (sb.heap.objs.size + 1) scope.names (cloFrom X.env.cells scope.names [])) fp
  have qt := fun τ => kt pins sb σ τ (upd Ha D (.lst [])) sb.heap.objs.size (cellsFrom (sb.heap.objs.size + 1) scope.names (cloFrom X.env.cells scope.names [])) fp Ib fun b hm => (fpb b hm).1
  have qe := ke sb (upd Ha D (.lst [])) sb.heap.objs.size (cellsFrom (sb.heap.objs.size + 1) scope.names (cloFrom X.env.cells scope.names [])) fp
  have none : ∀ b ∈ fp, (upd Ha D (.lst [])) b = .none := fun b hm => (fpb b hm).1.1
  rw [show sa.heap.objs.size = D from hD.symm]
  rw [← hsb]
  obtain ⟨en, hen⟩ : ∃ en, en = compEnvC scope (cellsFrom (sb.heap.objs.size + 1) scope.names (cloFrom X.env.cells scope.names [])) sb.heap.objs.size X.env := ⟨_, rfl⟩
  obtain ⟨sc, hsc⟩ : ∃ sc : Shared, sc = { sb with heap := pushCells (sb.heap.push { cls := .type "dict", data := .dict #[] }) scope.names } := ⟨_, rfl⟩
  show codeAny _ _ (.compStart _ 0 _ _ (compEnvC scope (cellsFrom (sb.heap.objs.size + 1) scope.names (cloFrom X.env.cells scope.names [])) sb.heap.objs.size X.env)) _ { sb with heap := pushCells (sb.heap.push { cls := .type "dict", data := .dict #[] }) scope.names }
  rw [← hen] at Ic qg qt qe ⊢
  rw [← hsc] at Ic ⊢
  have enL : en.locals = sb.heap.objs.size := by rw [hen]; rfl
  obtain ⟨Hb, hHb⟩ : ∃ Hb, Hb = upd Ha D (.lst []) := ⟨_, rfl⟩
  rw [← hHb] at Ib Ic qg qt qe w0 none fpb
  have stc : tn 0 sc.heap := T.keep _ _ _ stb fun b _ o e => by rw [hsc]; exact pushCells_keeps _ _ _ _ (Heap.get?_push_of_some _ e)
  have far : ∀ {τ : L2.St} {G : Hp} {t : Shared}, Inv (X.blk sb Hb scope en fp) [] τ G t → (∀ b ∈ fp, G b = .none) → ∀ b ∈ fp, FpOk (X.blk sb Hb scope en fp) [] G b := fun {τ G t} K n b hm =>
    ⟨n b hm, (K.ok.exf b hm).1, K.ok.exfs b hm, .inl hm, fun x c e => (K.ok.exf b hm).2 x c e, fun p hp => by cases (show p ∈ ([] : List (Addr × Obj)) ++ [] from hp)⟩
  have walk : codeAny (model X.prog X.w) X.A (.compLoop (.ListComp elt [⟨tg, iter, ifs, 0⟩] scope pos) 0 (.ref it) (.ref D) en) (compPost (model X.prog X.w) X.A X.xe .none (EP X pins σ Q) (.ref D) sb.heap.objs.size) sc := by
    refine compLoop_any (fun n t => ∃ i G, Inv (X.blk sb Hb scope en fp) [] (wipe σ (own.map (·.2))) G t ∧ tn i t.heap ∧ (∀ b ∈ fp, G b = .none) ∧ W i n G) ?_ m0 ⟨0, Hb, Ic, stc, none, w0⟩
    rintro n t ⟨i, G, It, stt, nt, wt⟩
    rcases turns i n G wt with ⟨stop, fin⟩ | ⟨go, Nx, less, one⟩
    · refine thnF (T.done (X.blk sb Hb scope en fp) rfl rfl rfl calm i [] t _ G (fun _ _ => False) It (far It nt) stt stop) fun r t1 ⟨hr, I1⟩ => ?_
      subst hr
      have IX := blk_back Ib (fun b hm => (fpb b hm).1) I1
      have nC : G sb.heap.objs.size = .none := by
        have z : G en.locals = .none := I1.free
        rw [enL] at z
        exact z
      obtain ⟨m, hn, _⟩ := I1.loc
      have hn : t1.heap.Ns en.locals m := hn
      rw [enL] at hn
      obtain ⟨g0, g1, g2, g3, g4, g5⟩ := Ib.fpOk (H' := G) (Nat.le_refl _) nC
      exact ⟨m, hn, fun h'' sbb => ⟨.ref D, G, IX.turned (t' := t1.toks) (fun b o hne e => (sbb.2 b hne).trans e) g0 g1 g3 g4 g5, rfl, fin⟩⟩
    · refine thnF (T.item (X.blk sb Hb scope en fp) rfl rfl rfl calm i [] t _ G (fun _ _ => False) It (far It nt) stt go) fun r t1 ⟨u, hr, h1⟩ => ?_
      subst hr
      refine thnF h1 fun _ t2 ⟨x, G2, I2, r2, y2, st2, n2⟩ => ?_
      have P2 := I2.pinned (far I2 n2) (T.obj _ _ st2)
      refine thnF (qg.run _ t2 _ G2 x u _ P2 r2 (one x G2 y2)) fun _ t3 ⟨τ, G3, I3, w3, q3⟩ => ?_
      refine thnF ((qt τ w3).run _ t3 τ G3 _ I3 ⟨rfl, q3⟩) fun b t4 ⟨G4, I4, q4⟩ => ?_
      have turned : ∀ {t' : Shared} {G' : Hp}, Inv (X.blk sb Hb scope en fp) ([] ++ pinsAt fp t2.heap) τ G' t' → Nx G' → ∃ m, m < n ∧ ∃ i G, Inv (X.blk sb Hb scope en fp) [] (wipe σ (own.map (·.2))) G t' ∧ tn i t'.heap ∧ (∀ b ∈ fp, G b = .none) ∧ W i m G := fun {t' G'} K nx => by
        obtain ⟨m', lt, w'⟩ := less G' nx
        have pinned : ∀ b ∈ fp, ∀ o, t2.heap.get? b = some o → t'.heap.get? b = some o ∧ G' b = .none := fun b hm o e =>
          have z := K.pin (b, o) (List.mem_append_right _ (List.mem_append_right _ (mem_pinsAt hm e)))
          ⟨z.1, z.2.1⟩
        refine ⟨m', lt, i + 1, G', K.unpinned.weak (by rw [← w3, wipe_length]) (fun j v e => by rw [← w3] at e; exact (wipe_some e).1), T.keep _ _ _ st2 fun b hm o e => (pinned b hm o e).1, fun b hm => ?_, w'⟩
        obtain ⟨o, e, _⟩ := T.obj _ _ st2 b hm
        exact (pinned b hm o e).2
      cases b with
      | false => exact turned I4 (by simpa using q4)
      | true =>
        have q4 := (by simpa using q4 : te τ G4 fun y H4 => ∃ acc, H4 D = some (.lst acc) ∧ acc.length < sizeLine ∧ Nx (upd H4 D (.lst (acc ++ [y]))))
        refine thnF (qe.run _ t4 τ G4 _ I4 q4) fun z t5 ⟨yv, G5, I5, r5, acc, hD5, hz5, nx⟩ => ?_
        exact app_ok (X := X.blk sb Hb scope en fp) I5 hD5 hz5 r5 fun t6 I6 => turned I6 nx
  exact codeAny_compStart_list walk (T.self X.A 0 _ _ _ stc walk)
end
end PLam

/-! a kept lambda is asked within a comprehension -/
namespace PLam
open PySem PySem.Spec PyProof.Rows L2 LamX
section
variable {X : Cx} {pins : List (Addr × Obj)} {σ τ : L2.St} {H : Hp} {s : Shared}
/-- other names may be known that the def doesn't see -/
theorem Inv_other {vs : List Nat} (I : Inv X pins σ H s) (w : wipe τ vs = wipe σ vs) (nv : ∀ i ∈ vs, ∀ x, X.N[i]? = some x → ¬ Vis X.env.scope x) : Inv X pins τ H s := by
  have hl : τ.length = σ.length := by rw [← wipe_length τ vs, w, wipe_length]
  obtain ⟨m, hn, hlc⟩ := I.loc
  refine ⟨I.ok, I.os, I.bare, I.base, ⟨m, hn, fun i x v e1 e2 e3 => ?_⟩, I.cell, I.free, I.freeC, I.pin, I.hok, by rw [hl]; exact I.len⟩
  have hi : i ∉ vs := fun hm => nv i hm x e1 e3
  refine hlc i x v e1 ?_ e3
  rw [← wipe_out (σ := σ) hi, ← w, wipe_out hi]
  exact e2
theorem pe_heardB {TT : (XK → Hp → VK → Prop) → Hp → VK → Prop} {x a : Str} {g : Addr} {k n : Nat} {pg : Arguments} {bg : List Stmt} {sg : Scope} {dV kV doc pm cdv ct oc : Value} {an od : Option Addr} {osl : Array (Option Value)} {Ng : List Str}
    {pa : Nat → Arguments} {bo : Nat → Expr} {sc : Nat → Scope} {t : Nat → XK → TE} {te : TE} {y : Str} {p p3 pos : Pos} {scope : Scope} {en : Env} {fp : List Addr} {vs : List Nat}
    (I3 : Inv X pins σ H s) (hfp : ∀ b ∈ fp, FpOk X pins H b) (hw : wipe τ vs = wipe σ vs) (nv : ∀ i ∈ vs, ∀ x, X.N[i]? = some x → ¬ Vis X.env.scope x)
    (hg : Gl (X.blk s H scope en fp) x) (hm : X.mg x = some (.ref g)) (hk : PySem.W.keepIn X.K (.ref g) = true)
    (lk : X.K.lookup g = some ⟨oc, od, .func (PySem.W.fnOf x x pg bg sg dV kV doc pm an cdv ct), osl⟩) (hcg : PySem.W.codeIn X.K cdv x = true) (hb : L2.Binds X.K (PySem.W.fnOf x x pg bg sg dV kV doc pm an cdv ct) [a] []) (Sg : FnScope Ng [a] sg) (hNg : Ng[0]? = some a) (hva : Vis sg a)
    (hG : GivesTo X Ng x sg g cdv bg a (X.env.qual ++ "<lambda>") TT) (he : PE (X.blk s H scope en fp) (.Name y p3) te)
    (hr : Room (k + 2) X.A) (L : ∀ j, j < n → LamS X.env.scope (sc j))
    (hbind : ∀ j, j < n → ∀ (q : Str) (cl : List (Str × Addr)) (pm cv ctv : Value), bindArgs (PySem.W.kla_fn "<lambda>" q (pa j) (bo j) (sc j) cl pm cv ctv) ⟨[], []⟩ = pure [])
    (hbody : ∀ j, j < n → ∀ (A : Around) (outer : List Env) (s : Shared) (H : Hp) (E : XK) (f c' : Addr), Room k (A.deeper (lamEnv X (sc j) s.heap.objs.size f c')) → PE (lamCx X A outer s H E (sc j) f c') (bo j) (t j E))
    (hdb : (x == ("__debug__" : Str)) = false := by decide) (hd : (a == ("__debug__" : Str)) = false := by decide) (hcd : (a == ("__classdict__" : Str)) = false := by decide) :
    PE (X.blk s H scope en fp) (.Call (.Name x p) [.Name y p3] [] pos) (fun τ' H' Q => τ' = τ ∧ tHeard (LamJ X pa bo sc) (X.env.qual ++ "<lambda>") n TT te t τ' H' Q) := by
  refine ⟨fun pb sb τ' Hb Q J h => ?_⟩
  obtain ⟨rfl, h⟩ := h
  refine wpAny_Call_Name_kw (ld_glob J hg hm ?_ hdb)
  refine PySem.W.callWith_K (h₀ := X.base) J.ok.mod.kin hk ?_ (by rfl) (by rfl)
  show wpAny _ _ (spliced ((false, eval (.Name y p3) en) :: backTo pos (starEach [] en))) _ _ sb
  refine Calls.spliced_cons (thn (he.run pb sb τ' Hb _ J h) fun u s' ⟨v, H1, J1, r1, q1⟩ => ?_)
  obtain ⟨f, c', j, hj, ev, hl, hco, hq⟩ := q1
  subst ev
  obtain rfl : u = Value.ref f := r1
  have IX : Inv X pins τ' H1 s' := Inv_other (blk_back I3 hfp J1) hw nv
  refine Calls.spliced_nil ⟨J1.kIn, ?_⟩
  have rc : codeAny (model X.prog X.w) X.A (.call (.ref g) ⟨[.ref f], []⟩) (CR C8.CX0 X.stack X.prog X.w H1 s' Q C8.E0) s' := by
    refine run_ofS (N := Ng) (ps := [a]) (us := [.ref f]) (vs := [.ref f]) lk hcg Sg hr IX.env0 (hb s' [.ref f] IX.kIn rfl) (.cons rfl .nil) rfl fun hr' => ?_
    obtain ⟨t', ht', hq'⟩ := hG f c' s' H1 Q (fun E H' Q' => H' f = some (LamJ X pa bo sc j f c') ∧ t j E τ' H' Q') (fun W pn xe E p1 p2 tk hW => pe_act2 (i := 0) IX (L j hj) (hbind j hj _ _ · _ ·) tk hW hr' (fun A outer s H hr2 => hbody j hj A outer s H E f c' hr2) hNg hva hd hcd) hco hq
    exact ⟨t', ht'.nox, hq'⟩
  refine wpAny_call (codeAny_mono rc fun r s2 hq => ?_)
  cases r with
  | error e => exact (show False from hq).elim
  | ok fl =>
    cases fl with
    | ret u => exact J1.after hq
    | next => exact False.elim hq
    | brk => exact False.elim hq
    | cont => exact False.elim hq
end
end PLam

/-! defs that ask a lambda: what they make of its answer -/
namespace Pd
open PySem L2 Evl
/-- the answer goes on by wrap, an error to the clauses -/
def TTg (K : PySem.W.Frag) (n : Nat) (l : List Cls) (nx : VK → Hp → Prop) (wrap : VK → VK) : (XK → Hp → VK → Prop) → Hp → VK → Prop := fun tl H Q =>
  tl (fun cls d H' => ∀ σ' : L2.St, σ'.length = n → wHd K (fun _ _ _ _ => False) { nx := fun _ H' => nx Q H', rt := Q } l cls d σ' H') H (wrap Q)
/-- return (w, x()) -/
def wPair (w : Str) : VK → VK := fun Q v H => [V.str w, v].length ≤ sizeLine ∧ ∀ p, H p = none → Q (.ref p) (upd H p (.tup [V.str w, v]))
def cNone : VK → Hp → Prop := fun Q H => Q .non H
/-- x(), then return None -/
def wNone : VK → VK := fun Q _ H => Q .non H
/-- x(), then return (w, i) -/
def cConst (w : Str) (i : Int) : VK → Hp → Prop := fun Q H => [V.str w, V.int i].length ≤ sizeLine ∧ ∀ p, H p = none → Q (.ref p) (upd H p (.tup [V.str w, V.int i]))
def wConst (w : Str) (i : Int) : VK → VK := fun Q _ H => cConst w i Q H
section
variable {X : Cx} {Ng : List Str} {x a q : Str} {sg : Scope} {g : Addr} {cdg : Value} {h0 : ExceptHandler} {hds : List ExceptHandler} {l : List Cls}
theorem told_pair {w : Str} {j0 x1 : Nat} {p1 p2 p3 p4 p5 pos : Pos} (hN : Ng.Nodup) (h1 : ∀ f : Addr, (L2.start Ng [V.ref f])[0]? = some (some (V.ref f)))
    (hh : ∀ (s : Shared) (H : Hp), Hds ((cxOf C8.CX0 X.prog X.w X.K X.mg X.base Ng x sg g cdg X.A X.stack s H C8.E0).nox) (h0 :: hds) l) :
    LamX.GivesTo X Ng x sg g cdg [.Try [.Return (some (.Tuple [.Constant (.str w) j0 p4, .Call (.Name a p1) [] [] p2] x1 p5)) p3] (h0 :: hds) [] [] pos] a q (TTg X.K Ng.length l cNone (wPair w)) := by
  intro f c' s H Q tl hcall hc htt
  refine ⟨_, pss_one (ps_try_len rfl rfl hN (fun _ _ z => by obtain ⟨a, B, sI, pins, σ, H, cls, d, _, _, _, _, _, _, _, _, w⟩ := z; exact w) (fun W pn xe tk _ => pss_one (ps_ret (pe_tup (pa_cons pe_str (pa_cons (hcall W pn xe (fun cls d H' => ∀ σ', W cls d σ' H') p1 p2 tk fun cls d σ' H' k => k σ') pa_nil))))) (hh s H)), ?_⟩
  exact ⟨h1 f, hc, htt⟩
theorem told_none {j0 : Nat} {p1 p2 p3 p4 p5 pos : Pos} (hN : Ng.Nodup) (h1 : ∀ f : Addr, (L2.start Ng [V.ref f])[0]? = some (some (V.ref f)))
    (hh : ∀ (s : Shared) (H : Hp), Hds ((cxOf C8.CX0 X.prog X.w X.K X.mg X.base Ng x sg g cdg X.A X.stack s H C8.E0).nox) (h0 :: hds) l) :
    LamX.GivesTo X Ng x sg g cdg [.Try [.Expr (.Call (.Name a p1) [] [] p2) p3] (h0 :: hds) [] [] pos, .Return (some (.Constant .none j0 p4)) p5] a q (TTg X.K Ng.length l cNone wNone) := by
  intro f c' s H Q tl hcall hc htt
  refine ⟨_, pss_cons (ps_try_len rfl rfl hN (fun _ _ z => by obtain ⟨a, B, sI, pins, σ, H, cls, d, _, _, _, _, _, _, _, _, w⟩ := z; exact w) (fun W pn xe tk _ => pss_one (ps_expr (hcall W pn xe (fun cls d H' => ∀ σ', W cls d σ' H') p1 p2 tk fun cls d σ' H' k => k σ'))) (hh s H)) (pss_one (ps_ret pe_non)), ?_⟩
  exact ⟨h1 f, hc, htt⟩
theorem told_const {w : Str} {j0 j1 x1 : Nat} {i : Int} {p1 p2 p3 p4 p5 p6 p7 pos : Pos} (hN : Ng.Nodup) (h1 : ∀ f : Addr, (L2.start Ng [V.ref f])[0]? = some (some (V.ref f)))
    (hh : ∀ (s : Shared) (H : Hp), Hds ((cxOf C8.CX0 X.prog X.w X.K X.mg X.base Ng x sg g cdg X.A X.stack s H C8.E0).nox) (h0 :: hds) l) :
    LamX.GivesTo X Ng x sg g cdg [.Try [.Expr (.Call (.Name a p1) [] [] p2) p3] (h0 :: hds) [] [] pos, .Return (some (.Tuple [.Constant (.str w) j0 p4, .Constant (.int i) j1 p6] x1 p7)) p5] a q (TTg X.K Ng.length l (cConst w i) (wConst w i)) := by
  intro f c' s H Q tl hcall hc htt
  refine ⟨_, pss_cons (ps_try_len rfl rfl hN (fun _ _ z => by obtain ⟨a, B, sI, pins, σ, H, cls, d, _, _, _, _, _, _, _, _, w⟩ := z; exact w) (fun W pn xe tk _ => pss_one (ps_expr (hcall W pn xe (fun cls d H' => ∀ σ', W cls d σ' H') p1 p2 tk fun cls d σ' H' k => k σ'))) (hh s H)) (pss_one (ps_ret (pe_tup (pa_cons pe_str (pa_cons pe_int pa_nil))))), ?_⟩
  exact ⟨h1 f, hc, htt⟩
end
/-! ### as data -/
def WrapOk (K : PKt) (wrap : VK → VK) (wr : PyData → PyData) : Prop := ∀ (F H : Hp) (σ : L2.St) (ρ : Rho) (v : V) (d : PyData) (Q : VK), RS K F H σ ρ → Dq K F v d → (∀ u F' H', Nx K σ ρ ρ F H F' H' → Dq K F' u (wr d) → Q u H') → wrap Q v H
theorem wrap_pair {K : PKt} {w : Str} : WrapOk K (wPair w) fun d => .tuple [.str w, d] := fun F H σ ρ v d Q rs dv q =>
  ⟨by show 2 ≤ sizeLine; decide, fun p hp => q _ _ _ (rs.new hp fun ps z => by cases z) (.tup (.inl upd_same) (.cons (.str w) (.cons (dv.mono (Ex.new (fresh_back rs.ex hp))) .nil)))⟩
theorem wrap_none {K : PKt} : WrapOk K wNone fun _ => .none := fun F H σ ρ v d Q rs dv q => q _ _ _ (Nx.refl rs) .non
theorem wrap_const {K : PKt} {w : Str} {i : Int} : WrapOk K (wConst w i) fun _ => .tuple [.str w, .int i] := fun F H σ ρ v d Q rs dv q =>
  ⟨by show 2 ≤ sizeLine; decide, fun p hp => q _ _ _ (rs.new hp fun ps z => by cases z) (.tup (.inl upd_same) (.cons (.str w) (.cons (.int i) .nil)))⟩
def toldG (hs : DH) (wr : PyData → PyData) (f : DE) : DE := fun ρ => match f ρ with
  | some (.ok d ρ1) => some (.ok (wr d) ρ1)
  | some (.ex c d ρ1) => (hs c d).map fun r => .ok r ρ1
  | none => none
def heardG (hs : DH) (wr : PyData → PyData) (fs : Nat → DE) (f : DE) : DE := fun ρ => bnd (f ρ) fun d ρ1 => match d with
  | .dict [(.bool true, .int (.ofNat j))] => toldG hs wr (fs j) ρ1
  | _ => none
section
variable {K : PKt} {ec : EC} {W : WX} {n : Nat} {l : List Cls} {hs : DH} {wrap : VK → VK} {wr : PyData → PyData} {nx : VK → Hp → Prop}
theorem ed_heardG {te : TE} {f : DE} {t : Nat → XK → TE} {fs : Nat → DE} (he : Ed K ec W te f) (hb : ∀ j, j < K.ln → ∀ E : XK, Ed K ec (fun cls d _ H => E cls d H) (t j E) (fs j)) (hr : Hres K ec n l hs) (hw : WrapOk K wrap wr) :
    Ed K ec W (PLam.tHeard K.lo K.lq K.ln (TTg K n l nx wrap) te t) (heardG hs wr fs f) := by
  intro F H σ ρ o rs e Q q hf
  unfold heardG at e
  refine he.go rs e hf fun d ρ1 v F1 H1 n1 dv e1 hf1 => ?_
  split at e1
  · rename_i j
    generalize hd : PyData.dict [(PyData.bool true, PyData.int (Int.ofNat j))] = dd at dv
    cases dv with
    | @lam f c j' hj h1 h2 =>
      have hjj : j = j' := by
        injection hd with hd
        injection hd with hd _
        injection hd with _ hd
        injection hd with hd
        exact Int.ofNat.inj hd
      subst hjj
      refine ⟨f, c, j, hj, rfl, n1.rs.ex _ _ h1, n1.rs.ex _ _ h2, n1.rs.ex _ _ h1, ?_⟩
      unfold toldG at e1
      cases ef : fs j ρ1 with
      | none => rw [ef] at e1; cases e1
      | some oo =>
        rw [ef] at e1
        refine hb j hj _ F1 H1 σ ρ1 oo n1.rs ef (wrap Q) (fun d ρ' eo v F' H' m dv => ?_) fun c d ρ' eo cls dd F' H' m xr => ?_
        · subst eo
          cases e1
          exact hw F' H' σ ρ' v d Q m.rs dv fun u F2 H2 m2 du => q _ ρ' rfl u F2 H2 ((n1.trans m).trans m2) du
        · subst eo
          intro σ' hl
          have e' : ((hs c d).map fun r => (.ok r ρ' : Ou PyData)) = some o := e1
          cases eh : hs c d with
          | none => rw [eh] at e'; cases e'
          | some r =>
            rw [eh] at e'
            cases e'
            exact hr c d r cls dd F' H' σ' hl m.rs.ex xr eh _ _ (fun u du => q r ρ' rfl u F' H' (n1.trans m) du) fun p ob nt hp dp => q r ρ' rfl (.ref p) _ _ ((n1.trans m).trans (m.rs.new hp nt)) dp
    | scr _ _ => cases hd
    | _ => cases hd
  · cases e1
end
end Pd

/-! a def that keeps lambdas: what is known of them is chosen when it is entered -/
namespace Pd
open PySem L2 Evl
structure LamK where
  ln : Nat
  lq : Str
  lo : Nat → Addr → Addr → HO
abbrev PKt.withL (K : PKt) (J : LamK) : PKt := ⟨K.K, K.T, J.ln, J.lq, J.lo⟩
section
variable {K : PKt} {F : Hp}
mutual
theorem Dq.up (h0 : K.ln = 0) (J : LamK) : ∀ {v : V} {d : PyData}, Dq K F v d → Dq (K.withL J) F v d
  | _, _, .non => .non
  | _, _, .bl b => .bl b
  | _, _, .int i => .int i
  | _, _, .str x => .str x
  | _, _, .lst h a => .lst h (DqAll.up h0 J a)
  | _, _, .tup h a => .tup h (DqAll.up h0 J a)
  | _, _, .scr h a => .scr h (DqAll.up h0 J a)
  | _, _, .lam j _ _ => absurd j (by rw [h0]; exact Nat.not_lt_zero _)
theorem DqAll.up (h0 : K.ln = 0) (J : LamK) : ∀ {vs : List V} {ds : List PyData}, DqAll K F vs ds → DqAll (K.withL J) F vs ds
  | _, _, .nil => .nil
  | _, _, .cons h t => .cons (Dq.up h0 J h) (DqAll.up h0 J t)
end
/-- the law's own promise: True or False -/
def spL (K : PKt) (n : Nat) (f : FnQ) : Sp := fun vs H Q _ => LamX.Tabs K.T H ∧ ∃ F ds b, Nt F ∧ Ex F H ∧ DqAll K F vs ds ∧ ds.length = n ∧ f ds = some (.bool b) ∧ ∀ F' H', Go K.T no1 F H F' H' → Q (.bl b) H'
theorem spL_up {n : Nat} {f : FnQ} {vs : List V} {H : Hp} {Q : VK} {E : XK} (h0 : K.ln = 0) (J : LamK) (h : spL K n f vs H Q E) : spQ (K.withL J) n f vs H Q E := by
  obtain ⟨tb, F, ds, b, nt, ex, dv, hl, e, q⟩ := h
  exact ⟨tb, F, ds, .bool b, nt, ex, dv.up h0 J, hl, e, fun v F' H' g dv => by cases dv; exact q F' H' g⟩
theorem spL_length {n : Nat} {f : FnQ} {vs : List V} {H : Hp} {Q : VK} {E : XK} (h : spL K n f vs H Q E) : vs.length = n := by
  obtain ⟨_, _, ds, _, _, _, h2, h3, _⟩ := h
  exact h2.length.trans h3
theorem script_F {H : Hp} {a : Addr} {xs : List V} (hS : SqL K.K H a xs) : ∃ F, Nt F ∧ Ex F H ∧ SqL K.K F a xs := by
  have one : ∀ o : HO, (∀ ps, o ≠ .tbl ps) → H a = some o → SqL K.K (upd (fun _ => none) a o) a xs → ∃ F, Nt F ∧ Ex F H ∧ SqL K.K F a xs := fun o nt h hF => by
    refine ⟨upd (fun _ => none) a o, Nt.upd (fun _ _ z => by cases z) nt, fun b u hb => ?_, hF⟩
    by_cases e : b = a
    · subst e; rw [upd_same] at hb; rw [h]; exact hb
    · rw [upd_ne e] at hb; cases hb
  rcases hS with (h | ⟨u, h⟩) | h
  · exact one _ (fun ps z => by cases z) h (.inl (.inl upd_same))
  · exact one _ (fun ps z => by cases z) h (.inl (.inr ⟨u, upd_same⟩))
  · have n1 : Nt (fun _ => none) := fun _ _ z => by cases z
    have n2 : Ex (fun _ => none) H := fun _ _ z => by cases z
    exact ⟨fun _ => none, n1, n2, .inr h⟩
theorem script_spL {f : FnQ} {H : Hp} {a : Addr} {ns : List Int} (tb : LamX.Tabs K.T H) (hS : SqL K.K H a (ns.map V.int)) (e : f [scrD ns] = some (.bool true)) : spL K 1 f [V.ref a] H (fun v _ => v = V.bl true) fun _ _ _ => False := by
  obtain ⟨F, nt, ex, hF⟩ := script_F hS
  exact ⟨tb, F, [scrD ns], true, nt, ex, .cons (.scr hF (ints_dq ns)) .nil, rfl, e, fun F' H' g => rfl⟩
end
end Pd
namespace L2
open PySem PySem.Spec PyProof.Rows
/-- x(y) within a comprehension, x an own def that asks -/
theorem pe_heardK {X : Cx} {st : Stmt} {x a y : Str} {g : Addr} {fd : FuncData} {Ng : List Str} {TT : (XK → Hp → VK → Prop) → Hp → VK → Prop} {k n : Nat} {pa : Nat → Arguments} {bo : Nat → Expr} {sc : Nat → Scope} {t : Nat → XK → TE} {te : TE} {p p3 pos : Pos}
    {pins : List (Addr × Obj)} {σ τ : L2.St} {H : Hp} {s : Shared} {scope : Scope} {en : Env} {fp : List Addr} {vs : List Nat} (I3 : Inv X pins σ H s) (hfp : ∀ b ∈ fp, FpOk X pins H b) (hw : wipe τ vs = wipe σ vs) (nv : ∀ i ∈ vs, ∀ x, X.N[i]? = some x → ¬ Vis X.env.scope x)
    (F : Fun X.K x x st g fd) (hm : X.mg x = some (.ref g)) (b : Binds X.K fd [a] []) (S : FnScope Ng [a] (defScope st)) (h0 : Ng[0]? = some a) (hv : Vis (defScope st) a) (hG : ∀ cdg, LamX.GivesTo X Ng x (defScope st) g cdg (defBody st) a (X.env.qual ++ "<lambda>") TT)
    (he : PE (X.blk s H scope en fp) (.Name y p3) te) (hr : Room (k + 2) X.A) (L : ∀ j, j < n → LamX.LamS X.env.scope (sc j))
    (hba : ∀ j, j < n → ∀ (q : Str) (cl : List (Str × Addr)) (pm cv ctv : Value), bindArgs (PySem.W.kla_fn "<lambda>" q (pa j) (bo j) (sc j) cl pm cv ctv) {} = pure [])
    (hb : ∀ j, j < n → ∀ (A : Around) (outer : List Env) (s : Shared) (H : Hp) (E : XK) (f c' : Addr), Room k (A.deeper (LamX.lamEnv X (sc j) s.heap.objs.size f c')) → PE (LamX.lamCx X A outer s H E (sc j) f c') (bo j) (t j E)) (hg : Gl (X.blk s H scope en fp) x := by rfl)
    (d1 : (x == ("__debug__" : Str)) = false := by decide) (d2 : (a == ("__debug__" : Str)) = false := by decide) (d3 : (a == ("__classdict__" : Str)) = false := by decide) :
    PE (X.blk s H scope en fp) (.Call (.Name x p) [.Name y p3] [] pos) (fun τ' H' Q => τ' = τ ∧ PLam.tHeard (PLam.LamJ X pa bo sc) (X.env.qual ++ "<lambda>") n TT te t τ' H' Q) := by
  obtain ⟨oc, od, kV, doc, pm, an, cdv, ct, osl, rfl, lk, hcd⟩ := F.ex
  exact PLam.pe_heardB I3 hfp hw nv hg hm F.kp lk hcd b S h0 hv (hG cdv) he hr L hba hb d1 d2 d3
end L2
namespace Pd
open PySem L2 Evl
/-! the way to a lambda within a def's text -/
def nX : Expr := .Constant .none 0 ⟨0, 0, 0, 0⟩
def nS : Stmt := .Pass ⟨0, 0, 0, 0⟩
def sBod : Stmt → List Stmt
  | .For _ _ b _ _ => b
  | .If _ b _ _ => b
  | _ => []
def sExp : Stmt → Expr
  | .Assign _ e _ => e
  | .Expr e _ => e
  | _ => nX
def xArgs : Expr → List Expr
  | .List es _ => es
  | .Tuple es _ _ => es
  | .Call _ es _ _ => es
  | _ => []
def lamA : Expr → Arguments
  | .Lambda a _ _ _ => a
  | _ => defArgs nS
def lamB : Expr → Expr
  | .Lambda _ b _ _ => b
  | e => e
def lamC : Expr → Scope
  | .Lambda _ _ s _ => s
  | _ => defScope nS
end Pd

/-! a tuple read backwards, a text's place in a list -/
namespace L2
open PySem PySem.Spec PyProof.Rows HT
section
variable {pg : Program} {wd : World} {Ar : Around} {Er : Value → Shared → Prop} {st : Shared}
theorem adj_rev (n : Nat) : Builtin.Slice.sliceAdjust none none (-1) (n : Int) = ((n : Int) - 1, -1) := by
  have hm : ((-1 : Int) < 0) = True := by simp
  unfold Builtin.Slice.sliceAdjust
  simp only [hm, if_true]
theorem plc_rev (n : Nat) : Builtin.Slice.slicePlaces ((n : Int) - 1) (-1) (-1) = n := by
  unfold Builtin.Slice.slicePlaces
  have hm : ¬ ((-1 : Int) > 0) := by omega
  rw [if_neg hm]
  by_cases h : ((n : Int) - 1 > -1)
  · rw [if_pos h]
    have : -(-1 : Int) = 1 := by omega
    rw [this, Int.ediv_one]
    omega
  · rw [if_neg h]; omega
theorem fm_congr {α β : Type} {f g : α → Option β} : ∀ {l : List α}, (∀ x ∈ l, f x = g x) → l.filterMap f = l.filterMap g
  | [], _ => rfl
  | x :: l, h => by
    rw [List.filterMap_cons, List.filterMap_cons, h x List.mem_cons_self, fm_congr fun y hy => h y (List.mem_cons_of_mem _ hy)]
theorem pick_rev (us : List Value) : ((List.range us.length).filterMap fun (m : Nat) => us.toArray[(((us.length : Int) - 1) + (m : Int) * (-1)).toNat]?) = us.reverse := by
  have e1 : ∀ m ∈ List.range us.length, us.toArray[(((us.length : Int) - 1) + (m : Int) * (-1)).toNat]? = us.reverse[m]? := by
    intro m hm
    have hm := List.mem_range.mp hm
    have e : (((us.length : Int) - 1) + (m : Int) * (-1)).toNat = us.length - 1 - m := by omega
    rw [e, List.getElem?_reverse hm, List.getElem?_toArray]
  have e2 : ((List.range us.length).filterMap fun (m : Nat) => us.toArray[(((us.length : Int) - 1) + (m : Int) * (-1)).toNat]?) = (List.range us.reverse.length).filterMap fun m => us.reverse[m]? := by
    rw [List.length_reverse]
    exact fm_congr e1
  rw [e2]
  have all : ∀ vs : List Value, (List.range vs.length).filterMap (fun m => vs[m]?) = vs := by
    intro vs
    induction vs with
    | nil => rfl
    | cons v vs ih =>
      rw [List.length_cons, List.range_succ_eq_map, List.filterMap_cons]
      simp only [List.getElem?_cons_zero, List.filterMap_map]
      congr 1
  exact all _
theorem applied_rev {sl : Addr} {vk : Value} {n : Nat} {R : Int × Int × Nat → Shared → Prop} (hs : st.heap.IsSliceOf sl .none .none vk) (pk : IsPart vk (some (-1))) (h : R ((n : Int) - 1, -1, n) st) : wpAny (model pg wd) Ar (Builtin.Slice.sliceApplied (.ref sl) (pure (n : Int))) R Er st := by
  obtain ⟨ob, g1, g2, g3⟩ := id hs
  unfold Builtin.Slice.sliceApplied
  unfold Builtin.Slice.sliceFields
  refine wpAny_bind (wpAny_bind (wpAny_field g1 g3 (x := Value.none) rfl ?_))
  refine wpAny_bind (wpAny_field g1 g3 (x := Value.none) rfl ?_)
  refine wpAny_bind (wpAny_field g1 g3 (x := vk) rfl (wpAny_pure ?_))
  refine wpAny_bind (slicePart_ pk ?_)
  show wpAny _ _ (if ((-1 : Int) == 0) = true then _ else _) _ _ st
  rw [if_neg (by decide)]
  refine wpAny_bind (slicePart_none (wpAny_bind (slicePart_none (wpAny_bind (wpAny_pure ?_)))))
  show wpAny _ _ (match Builtin.Slice.sliceAdjust none none (-1) (n : Int) with | (lo, hi) => pure (lo, (-1 : Int), Builtin.Slice.slicePlaces lo hi (-1))) _ _ st
  rw [adj_rev n]
  show wpAny _ _ (pure ((n : Int) - 1, (-1 : Int), Builtin.Slice.slicePlaces ((n : Int) - 1) (-1) (-1))) _ _ st
  rw [plc_rev]
  exact wpAny_pure h
theorem tup_rev {t sl : Addr} {us : List Value} {vk : Value} {R : Value → Shared → Prop} (ht : IsTup st.heap t us.toArray) (hs : st.heap.IsSliceOf sl .none .none vk) (pk : IsPart vk (some (-1))) (hz : us.length ≤ sizeLine)
    (h : R (.ref st.heap.objs.size) { st with heap := st.heap.push { cls := .type "tuple", data := .seq us.reverse.toArray } }) : wpAny (model pg wd) Ar (getItem (.ref t) (.ref sl)) R Er st := by
  have fits : sizeOk (.seq us.reverse.toArray) := by
    show us.reverse.toArray.size ≤ sizeLine
    rw [List.size_toArray, List.length_reverse]; exact hz
  obtain ⟨ob, g1, g2, g3⟩ := id hs
  have isSl : st.TypeIs (.ref sl) "slice" := ⟨ob, g1, g2⟩
  unfold getItem; try with_reducible refine wpAny_holding ?_
  first | refine wpAny_bind (wpAny_pure ?_) | skip
  refine wpAny_bind (wpAny_sequenceKey ht.typeIs (by decide) ?_); refine wpAny_bind (wpAny_callSpecial?_slot (name := Str.ofString "__getitem__") ht.typeIs PyProof.Rows.slot_tuple_getitem (wpAny_call_entry PyProof.Rows.slot_tuple_getitem ht.typeIs entry_tuple_getitem ?_ (args_tuple_getitem _ _)))
  show wpAny _ _ (Builtin.Tuple.tupleItemsOf (.ref t) >>= _) _ _ st
  refine wpAny_bind (tupleItemsOf_ ht (wpAny_bind (wpAny_typeOf isSl ?_)))
  rw [if_pos (by decide)]
  have e0 : us.toArray.size = us.length := List.size_toArray
  rw [e0]
  refine wpAny_bind (applied_rev hs pk ?_)
  have no : ¬ (((us.length : Int) - 1 == 0 && (-1 : Int) == 1 && us.length == us.length) = true) := by
    intro q
    rw [Bool.and_eq_true, Bool.and_eq_true] at q
    exact absurd q.1.2 (by decide)
  show wpAny _ _ (if ((us.length : Int) - 1 == 0 && (-1 : Int) == 1 && us.length == us.length) = true then _ else _) _ _ st
  rw [if_neg no, pick_rev]
  first
    | exact wpAny_bind (m := Builtin.Tuple.tupleExact _) (wpAny_newObj_type (wpAny_pure ⟨_, rfl, wpAny_pure h⟩) fits)
    | exact wpAny_bind (m := Builtin.Tuple.tupleExact _) (wpAny_newObj_type (wpAny_bind (wpAny_pure (wpAny_pure ⟨_, rfl, wpAny_pure h⟩))) fits)
end
section
variable {X : Cx}
/-- t[::-1], t a list or a tuple -/
def tRevS (K : PySem.W.Frag) (te : TE) : TE := fun σ H Q => te σ H fun x H1 => ∃ a us, x = .ref a ∧ ((SqL K H1 a us ∧ ∀ p, H1 p = none → Q (.ref p) (upd H1 p (.lst us.reverse))) ∨ (SqT K H1 a us ∧ ∀ p, H1 p = none → Q (.ref p) (upd H1 p (.tup us.reverse))))
theorem pe_revS {e : Expr} {te : TE} {k : Nat} {p1 p2 p3 pos : Pos} (he : PE X e te) : PE X (.Subscript e (.Slice none none (some (.UnaryOp .USub (.Constant (.int 1) k p1) p2)) p3) pos) (tRevS X.K te) := by
  refine ⟨fun pins s σ H Q I h => ?_⟩
  refine Subscript_ (thn (he.run pins s σ H _ I h) fun v s1 ⟨x, H1, I1, r1, q1⟩ => ?_)
  obtain ⟨a, us, rfl, q1⟩ := q1
  cases r1
  have stp : PO X (some (.UnaryOp .USub (.Constant (.int 1) k p1) p2)) (tPart (tUn (rU fun i => .int (-i)) (tC (.int 1)))) := po_some (pe_un un_neg pe_int)
  refine wpAny_Slice (thn (po_none.run pins s1 σ H1 (fun o H2 => o = none ∧ H2 = H1) I1 ⟨rfl, rfl⟩) fun v1 s2 ⟨l, H2, I2, pl, el, e2⟩ => ?_); subst el e2
  refine thn (po_none.run pins s2 σ H2 (fun o H3 => o = none ∧ H3 = H2) I2 ⟨rfl, rfl⟩) fun v2 s3 ⟨u, H3, I3, pu, eu, e3⟩ => ?_; subst eu e3
  refine thn (stp.run pins s3 σ H3 (fun o H4 => o = some (-1) ∧ H4 = H3) I3 ⟨1, rfl, -1, rfl, rfl, rfl⟩) fun v3 s4 ⟨o, H4, I4, ps, eo, e4⟩ => ?_; subst eo e4
  have I5 : Inv X pins σ H4 { s4 with heap := s4.heap.push { cls := .type "slice", data := .fields #[v1, v2, v3] } } := I4.kept (t' := s4.toks) fun b ob q => Heap.get?_push_of_some _ q
  show wpAny (model X.prog X.w) X.A (subscriptTail e (.Slice none none (some (.UnaryOp .USub (.Constant (.int 1) k p1) p2)) p3) (.ref a) (.ref s4.heap.objs.size)) (EP X pins σ Q) X.xe { s4 with heap := s4.heap.push { cls := .type "slice", data := .fields #[v1, v2, v3] } }
  rcases q1 with ⟨hx, q⟩ | ⟨hx, q⟩
  · obtain ⟨its, r, ht, hz⟩ := I5.list hx
    have hlen := r.length
    refine tail_any (ops := [.ref a, .ref s4.heap.objs.size]) ht.isList.typeIs (PySem.slot_list_getitem.lookup) ?_ (by with_unfolding_all rfl)
    refine wpAny_getItem_list_slice ht.isList (Heap.IsSliceOf.new _ v1 v2 v3) pl pu ps (by decide) ?_ (by rw [List.size_toArray]; omega)
    rw [PySem.W.krv_pick]
    refine ⟨.ref _, _, I5.laid (t' := s4.toks) (o := .lst us.reverse) (fun b ob q => Heap.get?_push_of_some _ q) (Nat.le_refl _) ?_, rfl, q _ (I5.hok.fresh (Nat.le_refl _))⟩
    exact ⟨by rw [List.length_reverse]; exact hz, _, 0, r.reverse, Heap.get?_push_size _ rfl⟩
  · obtain ⟨its, r, ht, hz⟩ := I5.tuple hx
    have hlen := r.length
    cases pl; cases pu
    refine tail_any (ops := [.ref a, .ref s4.heap.objs.size]) ht.typeIs (PyProof.Rows.slot_tuple_getitem.lookup) ?_ (by with_unfolding_all rfl)
    refine tup_rev ht (Heap.IsSliceOf.new _ .none .none v3) ps (by omega) ?_
    refine ⟨.ref _, _, I5.laid (t' := s4.toks) (o := .tup us.reverse) (fun b ob q => Heap.get?_push_of_some _ q) (Nat.le_refl _) ?_, rfl, q _ (I5.hok.fresh (Nat.le_refl _))⟩
    exact ⟨by rw [List.length_reverse]; exact hz, _, r.reverse, IsTup.new _ _⟩
end
end L2

/-! a row read backwards; a thing's place in a list; a lambda asked at once -/
namespace Pd
open PySem L2 Evl
section
variable {K : PKt} {ec : EC} {W : WX} {te ta tb : TE} {tl : TA} {f g : DE} {fl : DL} {F H : Hp} {v w : V} {vs : List V} {a : PyData} {ds : List PyData} {σ : L2.St} {ρ : Rho}
/-! ### x[::-1] -/
def rRevS (K : PySem.W.Frag) : V → Hp → VK → Prop := fun x H1 Q => ∃ a us, x = .ref a ∧ ((SqL K H1 a us ∧ ∀ p, H1 p = none → Q (.ref p) (upd H1 p (.lst us.reverse))) ∨ (SqT K H1 a us ∧ ∀ p, H1 p = none → Q (.ref p) (upd H1 p (.tup us.reverse))))
theorem pe_revK {X : Cx} (K : PySem.W.Frag) (h : X.K = K) {e : Expr} {te : TE} {k : Nat} {p1 p2 p3 pos : Pos} (he : PE X e te) : PE X (.Subscript e (.Slice none none (some (.UnaryOp .USub (.Constant (.int 1) k p1) p2)) p3) pos) (tUn (rRevS K) te) := h ▸ pe_revS he
def revP : PyData → Option PyData
  | .list ds => some (.list ds.reverse)
  | .tuple ds => some (.tuple ds.reverse)
  | _ => none
theorem und_rev : UnD K (rRevS K) revP := by
  intro F H v a d ex dv e Q q1 q2
  unfold revP at e
  split at e
  · cases e
    cases dv with
    | lst ha hs => exact ⟨_, _, rfl, .inl ⟨SqL.of (ex _ _ ha), fun p hp => q2 p _ (fun ps z => by cases z) hp (.lst upd_same (hs.reverse.mono (Ex.new (fresh_back ex hp))))⟩⟩
  · cases e
    cases dv with
    | tup ha hs => exact ⟨_, _, rfl, .inr ⟨TupZ.sq ha ex, fun p hp => q2 p _ (fun ps z => by cases z) hp (.tup (.inl upd_same) (hs.reverse.mono (Ex.new (fresh_back ex hp))))⟩⟩
  · cases e
/-- a new list, read backwards -/
theorem unn_rev {ds es : List PyData} (ex : Ex F H) (dv : Dq K F v a) (e : revP a = some (.list es)) {Q : VK} (q : ∀ p ws, H p = none → DqAll K F ws es → Q (.ref p) (upd H p (.lst ws))) : rRevS K v H Q := by
  unfold revP at e
  split at e
  · cases e
    cases dv with
    | lst ha hs => exact ⟨_, _, rfl, .inl ⟨SqL.of (ex _ _ ha), fun p hp => q p _ hp hs.reverse⟩⟩
  · cases e
  · cases e
def revN (f : DE) : DL := fun ρ => bnd (f ρ) fun a ρ1 => match revP a with
  | some (.list ds) => some (.ok ds ρ1)
  | _ => none
theorem eo_rev (ha : Ed K ec W ta f) : Eo K ec W (tUn (rRevS K) ta) (revN f) := by
  intro F H σ ρ o rs e Q q hf
  refine ha.go rs e hf fun a ρ1 v F1 H1 n1 dv e1 hf1 => ?_
  split at e1
  · rename_i ds er
    cases e1
    refine unn_rev (ds := ds) n1.rs.ex dv er fun p ws hp hs => ?_
    have n2 := n1.rs.newOwn (o := HO.lst ws) hp (fun ps z => by cases z)
    exact q _ _ rfl p ws F1 _ (n1.trans n2) (fun t => Th.no hp (n1.thr p t)) (fresh_back n1.rs.ex hp) upd_same hs
  · cases e1
/-! ### xs.index(y) -/
def findD (y : PyData) : List PyData → Option Nat
  | [] => none
  | z :: zs => if z.eqv y = true then some 0 else (findD y zs).map (· + 1)
theorem findD_some {y : PyData} : ∀ {zs : List PyData} {j : Nat}, findD y zs = some j → ∃ z, zs[j]? = some z ∧ z.eqv y = true ∧ ∀ m z', m < j → zs[m]? = some z' → z'.eqv y = false
  | [], _, e => by cases e
  | z :: zs, j, e => by
    unfold findD at e
    split at e
    · rename_i h
      cases e
      exact ⟨z, rfl, h, fun m z' hm => absurd hm (Nat.not_lt_zero m)⟩
    · rename_i h
      cases er : findD y zs with
      | none => rw [er] at e; cases e
      | some i =>
        rw [er] at e
        cases e
        obtain ⟨u, h1, h2, h3⟩ := findD_some er
        refine ⟨u, by simpa using h1, h2, fun m z' hm hz => ?_⟩
        cases m with
        | zero => simp at hz; subst hz; simpa using h
        | succ m => exact h3 m z' (by have h0 : m + 1 < i + 1 := hm; omega) (by simpa using hz)
def indexP (ds : List PyData) : List PyData → Option PyData
  | [y] => if SeqAt.shaped (.list ds) = true ∧ SeqAt.shaped y = true then (findD y ds).map fun j => .int (j : Nat) else none
  | _ => none
/-- a list's own word, asked with data -/
def blM (op : List PyData → List PyData → Option PyData) (f : DE) (fl : DL) : DE := fun ρ => bnd (f ρ) fun a ρ1 => match a with
  | .list ds => bnd (fl ρ1) fun as ρ2 => (op ds as).map fun d => .ok d ρ2
  | _ => none
theorem mt_indexK {X : Cx} (K : PySem.W.Frag) (h : X.K = K) (hu : X.A.units + 65 < cLine) : MtR X "list.index" (rIndexD K) := h ▸ mt_indexD hu
theorem ed_index (ha : Ed K ec W ta f) (hl : Ea K ec W tl fl) : Ed K ec W (tBM K "list" (rIndexD K) ta tl) (blM indexP f fl) := by
  intro F H σ ρ o rs e Q q hf
  refine ha.go rs e hf fun a ρ1 v F1 H1 n1 dv e1 hf1 => ?_
  cases a with
  | list ds =>
    cases dv with
    | @lst p xs _ hp hs =>
      refine ⟨.inl ⟨rfl, _, SqL.of (n1.rs.ex _ _ hp)⟩, ?_⟩
      refine hl.go n1.rs e1 hf1 fun as ρ2 us F2 H2 n2 da e2 hf2 => ?_
      unfold indexP at e2
      split at e2
      · rename_i y
        split at e2
        · rename_i hsh
          cases ej : findD y ds with
          | none => rw [ej] at e2; cases e2
          | some j =>
            rw [ej] at e2
            obtain ⟨z, g1, g2, g3⟩ := findD_some ej
            cases da with
            | cons dy dr =>
              cases dr
              have dl : Dq K H2 (.ref p) (.list ds) := Dq.mono ((n2.go.fr).trans n2.rs.ex) (.lst hp hs)
              have dy' : Dq K H2 _ y := Dq.mono n2.rs.ex dy
              exact ⟨p, _, y, ds, j, z, rfl, rfl, dl.dpS hsh.1, dy'.dpS hsh.2, hsh.1, hsh.2, g1, g2, g3, fin n2.rs e2 (step_q (n1.trans n2) q) (.int _)⟩
        · cases e2
      · cases e2
  | _ => cases e1
/-! ### told(lambda: ..), by a def that makes something of the answer -/
theorem ed_toldG {n : Nat} {l : List Cls} {hs : DH} {wrap : VK → VK} {wr : PyData → PyData} {nx : VK → Hp → Prop} {t : XK → TE} {f : DE} (hb : ∀ E : XK, Ed K ec (fun cls d _ H => E cls d H) (t E) f) (hr : Hres K ec n l hs) (hw : WrapOk K wrap wr) : Ed K ec W (LamX.tLam K.T (TTg K n l nx wrap) t) (toldG hs wr f) := by
  intro F H σ ρ o rs e Q q hf
  refine ⟨rs.tab, fun H1 x tb => ?_⟩
  have n1 := rs.extN x tb
  unfold toldG at e
  show t _ σ H1 (wrap Q)
  cases ef : f ρ with
  | none => rw [ef] at e; cases e
  | some oo =>
    rw [ef] at e
    refine hb _ F H1 σ ρ oo n1.rs ef (wrap Q) (fun d ρ' eo v F' H' m dv => ?_) fun c d ρ' eo cls dd F' H' m xr => ?_
    · subst eo
      cases e
      exact hw F' H' σ ρ' v d Q m.rs dv fun u F2 H2 m2 du => q _ ρ' rfl u F2 H2 ((n1.trans m).trans m2) du
    · subst eo
      intro σ' hl
      have e' : ((hs c d).map fun r => (.ok r ρ' : Ou PyData)) = some o := e
      cases eh : hs c d with
      | none => rw [eh] at e'; cases e'
      | some r =>
        rw [eh] at e'
        cases e'
        exact hr c d r cls dd F' H' σ' hl m.rs.ex xr eh _ _ (fun u du => q r ρ' rfl u F' H' (n1.trans m) du) fun p ob nt hp dp => q r ρ' rfl (.ref p) _ _ ((n1.trans m).trans (m.rs.new hp nt)) dp
end
end Pd

namespace K06
open PySem L2 Evl Pd
def top (i : Nat) : Stmt := PySem.Challenge.pw_leastpromise_k06_whole_frames_and_progra.main.body.getD i (.Pass ⟨0, 0, 0, 0⟩)
structure Txt (K : PKt) (mg : Str → Option Value) (C : Nat → Addr) (B : Addr) (fI : Nat → Addr) : Prop where
  b_abs : mg "abs" = none
  b_all : mg "all" = none
  b_bool : mg "bool" = none
  b_enumerate : mg "enumerate" = none
  b_int : mg "int" = none
  b_isinstance : mg "isinstance" = none
  b_len : mg "len" = none
  b_list : mg "list" = none
  b_range : mg "range" = none
  b_str : mg "str" = none
  b_tuple : mg "tuple" = none
  k_MOST_DEEP : ∃ t, mg "MOST_DEEP" = some (.int 3 t)
  k_MOST_REGISTERS : ∃ t, mg "MOST_REGISTERS" = some (.int 4 t)
  k_MOST_TABLES : ∃ t, mg "MOST_TABLES" = some (.int 4 t)
  k_MOST_TURNS : ∃ t, mg "MOST_TURNS" = some (.int 4 t)
  x_InvalidFrame : PySem.PErrA.Txt K.K mg "InvalidFrame" "InvalidFrame.__init__" (C 0) B (fI 0)
  x_InvalidProgram : PySem.PErrA.Txt K.K mg "InvalidProgram" "InvalidProgram.__init__" (C 1) B (fI 1)
  x_InvalidDatum : PySem.PErrA.Txt K.K mg "InvalidDatum" "InvalidDatum.__init__" (C 2) B (fI 2)
  exm : ∀ i j, i < 3 → j < 3 → PySem.W.exmOne K.K (.ref (C i)) (.ref (C j)) = some (decide (i = j))
theorem Txt.up {K : PKt} {mg : Str → Option Value} {C : Nat → Addr} {B : Addr} {fI : Nat → Addr} (T : Txt K mg C B fI) (J : LamK) : Txt (K.withL J) mg C B fI :=
  { b_abs := T.b_abs, b_all := T.b_all, b_bool := T.b_bool, b_enumerate := T.b_enumerate, b_int := T.b_int, b_isinstance := T.b_isinstance, b_len := T.b_len, b_list := T.b_list, b_range := T.b_range, b_str := T.b_str, b_tuple := T.b_tuple, k_MOST_DEEP := T.k_MOST_DEEP, k_MOST_REGISTERS := T.k_MOST_REGISTERS, k_MOST_TABLES := T.k_MOST_TABLES, k_MOST_TURNS := T.k_MOST_TURNS, x_InvalidFrame := T.x_InvalidFrame, x_InvalidProgram := T.x_InvalidProgram, x_InvalidDatum := T.x_InvalidDatum, exm := T.exm }
end K06

namespace K06
open PySem L2 Evl Pd
section
variable {P : Program} {w : World} {K : PKt} {mg : Str → Option Value} {base : Heap} {C fI : Nat → Addr} {B : Addr}
abbrev s_is_integer : Stmt := top 6
theorem sc_is_integer : FnScope ["value"] ["value"] (defScope s_is_integer) := ⟨rfl, rfl, rfl, by decide +kernel, rfl, by decide +kernel, by decide +kernel⟩
def den_is_integer : DS := (retS (andV (isi1M "int" (varM 0)) (notV (isi1M "bool" (varM 0)))))
theorem ok_is_integer {f : Addr} {fd : FuncData} (F : Fun K.K "is_integer" "is_integer" s_is_integer f fd) (T : Txt K mg C B fI) :
    FnOk P w K.K mg base CX0 (0 + 1) f fd ["value"] (spQ K 1 (denQ 1 (den_is_integer))) := by
  refine F.ok sc_is_integer (fun vs H Q E h => by obtain ⟨_, _, ds, _, _, _, h2, h3, _⟩ := h; exact h2.length.trans h3) (fun cdv A outer s H vs Q E hr h => ?_)
  refine ⟨_, (pss_one (ps_ret (pe_and (pe_callB (call_isi1K K.K rfl) (by rfl) T.b_isinstance PyProof.Rows.boot_isinstance (pa_cons (pv 0) (pa_cons (pe_bltn (v := .ty "int") rfl T.b_int PyProof.Rows.boot_int rfl) pa_nil))) (pe_one (pe_not (pe_callB (call_isi1K K.K rfl) (by rfl) T.b_isinstance PyProof.Rows.boot_isinstance (pa_cons (pv 0) (pa_cons (pe_bltn (v := .ty "bool") rfl T.b_bool PyProof.Rows.boot_bool rfl) pa_nil)))))))), ?_⟩
  exact body_Q (N := ["value"]) (ec := ecOf C 99) (W := fun _ _ _ _ => False) (sd_ret (ed_and (ed_isi1 ed_var) (ed_not (ed_isi1 ed_var)))) h
abbrev s_is_below : Stmt := top 7
theorem sc_is_below : FnScope ["value", "many"] ["value", "many"] (defScope s_is_below) := ⟨rfl, rfl, rfl, by decide +kernel, rfl, by decide +kernel, by decide +kernel⟩
def den_is_below (fn_is_integer : FnQ) : DS := (retS (andV (callM 1 fn_is_integer (consM (varM 0) nilM)) (chainM leP ltP (conM (.int 0)) (varM 0) (varM 1))))
theorem ok_is_below {fa_is_integer : Addr} {fd_is_integer : FuncData} {fn_is_integer : FnQ} {f : Addr} {fd : FuncData} (F : Fun K.K "is_below" "is_below" s_is_below f fd) (T : Txt K mg C B fI)
    (D_is_integer : Dfn P w K.K mg base CX0 1 "is_integer" ["value"] (spQ K 1 fn_is_integer) fa_is_integer fd_is_integer) :
    FnOk P w K.K mg base CX0 (1 + 1) f fd ["value", "many"] (spQ K 2 (denQ 2 (den_is_below fn_is_integer))) := by
  refine F.ok sc_is_below (fun vs H Q E h => by obtain ⟨_, _, ds, _, _, _, h2, h3, _⟩ := h; exact h2.length.trans h3) (fun cdv A outer s H vs Q E hr h => ?_)
  refine ⟨_, (pss_one (ps_ret (pe_and (pe_d D_is_integer (hr.mono (by omega)) (pa_cons (pv 0) pa_nil)) (pe_one (pe_chain op_le op_lt pe_int (pv 0) (pv 1)))))), ?_⟩
  exact body_Q (N := ["value", "many"]) (ec := ecOf C 99) (W := fun _ _ _ _ => False) (sd_ret (ed_and (ed_call (ea_cons ed_var ea_nil)) (ed_chain opd_le opd_lt ed_int ed_var ed_var))) h
abbrev s_is_tuple_of : Stmt := top 8
theorem sc_is_tuple_of : FnScope ["value", "many"] ["value", "many"] (defScope s_is_tuple_of) := ⟨rfl, rfl, rfl, by decide +kernel, rfl, by decide +kernel, by decide +kernel⟩
def den_is_tuple_of : DS := (retS (andV (isi1M "tuple" (varM 0)) (opM eqS (caM lenP (consM (varM 0) nilM)) (varM 1))))
theorem ok_is_tuple_of {f : Addr} {fd : FuncData} (F : Fun K.K "is_tuple_of" "is_tuple_of" s_is_tuple_of f fd) (T : Txt K mg C B fI) :
    FnOk P w K.K mg base CX0 (0 + 1) f fd ["value", "many"] (spQ K 2 (denQ 2 (den_is_tuple_of))) := by
  refine F.ok sc_is_tuple_of (fun vs H Q E h => by obtain ⟨_, _, ds, _, _, _, h2, h3, _⟩ := h; exact h2.length.trans h3) (fun cdv A outer s H vs Q E hr h => ?_)
  refine ⟨_, (pss_one (ps_ret (pe_and (pe_callB (call_isi1K K.K rfl) (by rfl) T.b_isinstance PyProof.Rows.boot_isinstance (pa_cons (pv 0) (pa_cons (pe_bltn (v := .ty "tuple") rfl T.b_tuple PyProof.Rows.boot_tuple rfl) pa_nil))) (pe_one (pe_cmpR (op_eqK K.K rfl hr.units) (pe_callB (call_lenK K.K rfl) (by rfl) T.b_len PySem.boot_len (pa_cons (pv 0) pa_nil)) (pv 1) (nomark _)))))), ?_⟩
  exact body_Q (N := ["value", "many"]) (ec := ecOf C 99) (W := fun _ _ _ _ => False) (sd_ret (ed_and (ed_isi1 ed_var) (ed_op opd_eqS (ed_ca cad_len (ea_cons ed_var ea_nil)) ed_var))) h
abbrev s_are_below : Stmt := top 9
theorem z_are_below : Qt.AbS s_are_below := ⟨⟨_, _, _, _, _, _, _, _, _, _, _, rfl, rfl, rfl, by decide +kernel, by decide +kernel, by decide +kernel, by decide +kernel, by decide +kernel, by decide +kernel⟩, ⟨rfl, rfl, rfl, by decide +kernel, rfl, by decide +kernel, by decide +kernel⟩, by decide +kernel, by decide +kernel, by decide +kernel⟩
theorem z_is_below : Qt.Bel s_is_below := ⟨⟨_, _, _, _, _, _, _, _, _, _, rfl⟩, ⟨rfl, rfl, rfl, by decide +kernel, rfl, by decide +kernel, by decide +kernel⟩, by decide +kernel, by decide +kernel, by decide +kernel⟩
theorem z_is_integer : Qt.Int1 s_is_integer := ⟨⟨_, _, _, _, _, _, _, _, _, _, _, rfl⟩, ⟨rfl, rfl, rfl, by decide +kernel, rfl, by decide +kernel, by decide +kernel⟩, by decide +kernel, by decide +kernel, by decide +kernel, by decide +kernel⟩
abbrev s_is_row_of_values : Stmt := top 10
theorem sc_is_row_of_values : FnScope ["value", "length", "size"] ["value", "length", "size"] (defScope s_is_row_of_values) := ⟨rfl, rfl, rfl, by decide +kernel, rfl, by decide +kernel, by decide +kernel⟩
def den_is_row_of_values (fn_is_tuple_of : FnQ) (fn_are_below : FnQ) : DS := (retS (andV (callM 2 fn_is_tuple_of (consM (varM 0) (consM (varM 1) nilM))) (callM 2 fn_are_below (consM (varM 0) (consM (varM 2) nilM)))))
theorem ok_is_row_of_values {fa_is_tuple_of : Addr} {fd_is_tuple_of : FuncData} {fa_are_below : Addr} {fd_are_below : FuncData} {fn_is_tuple_of : FnQ} {fn_are_below : FnQ} {f : Addr} {fd : FuncData} (F : Fun K.K "is_row_of_values" "is_row_of_values" s_is_row_of_values f fd) (T : Txt K mg C B fI)
    (D_is_tuple_of : Dfn P w K.K mg base CX0 1 "is_tuple_of" ["value", "many"] (spQ K 2 fn_is_tuple_of) fa_is_tuple_of fd_is_tuple_of)
    (D_are_below : Dfn P w K.K mg base CX0 3 "are_below" ["values", "many"] (spQ K 2 fn_are_below) fa_are_below fd_are_below) :
    FnOk P w K.K mg base CX0 (3 + 1) f fd ["value", "length", "size"] (spQ K 3 (denQ 3 (den_is_row_of_values fn_is_tuple_of fn_are_below))) := by
  refine F.ok sc_is_row_of_values (fun vs H Q E h => by obtain ⟨_, _, ds, _, _, _, h2, h3, _⟩ := h; exact h2.length.trans h3) (fun cdv A outer s H vs Q E hr h => ?_)
  refine ⟨_, (pss_one (ps_ret (pe_and (pe_d D_is_tuple_of (hr.mono (by omega)) (pa_cons (pv 0) (pa_cons (pv 1) pa_nil))) (pe_one (pe_d D_are_below (hr.mono (by omega)) (pa_cons (pv 0) (pa_cons (pv 2) pa_nil))))))), ?_⟩
  exact body_Q (N := ["value", "length", "size"]) (ec := ecOf C 99) (W := fun _ _ _ _ => False) (sd_ret (ed_and (ed_call (ea_cons ed_var (ea_cons ed_var ea_nil))) (ed_call (ea_cons ed_var (ea_cons ed_var ea_nil))))) h
abbrev s_is_size : Stmt := top 11
theorem sc_is_size : FnScope ["value"] ["value"] (defScope s_is_size) := ⟨rfl, rfl, rfl, by decide +kernel, rfl, by decide +kernel, by decide +kernel⟩
def den_is_size (fn_is_integer : FnQ) : DS := (retS (andV (callM 1 fn_is_integer (consM (varM 0) nilM)) (opM inP (varM 0) (tupM (consM (conM (.int 2)) (consM (conM (.int 3)) nilM))))))
theorem ok_is_size {fa_is_integer : Addr} {fd_is_integer : FuncData} {fn_is_integer : FnQ} {f : Addr} {fd : FuncData} (F : Fun K.K "is_size" "is_size" s_is_size f fd) (T : Txt K mg C B fI)
    (D_is_integer : Dfn P w K.K mg base CX0 1 "is_integer" ["value"] (spQ K 1 fn_is_integer) fa_is_integer fd_is_integer) :
    FnOk P w K.K mg base CX0 (1 + 1) f fd ["value"] (spQ K 1 (denQ 1 (den_is_size fn_is_integer))) := by
  refine F.ok sc_is_size (fun vs H Q E h => by obtain ⟨_, _, ds, _, _, _, h2, h3, _⟩ := h; exact h2.length.trans h3) (fun cdv A outer s H vs Q E hr h => ?_)
  refine ⟨_, (pss_one (ps_ret (pe_and (pe_d D_is_integer (hr.mono (by omega)) (pa_cons (pv 0) pa_nil)) (pe_one (pe_cmpR (op_inK K.K rfl (units65 hr)) (pv 0) (pe_tup (pa_cons pe_int (pa_cons pe_int pa_nil))) (by rfl)))))), ?_⟩
  exact body_Q (N := ["value"]) (ec := ecOf C 99) (W := fun _ _ _ _ => False) (sd_ret (ed_and (ed_call (ea_cons ed_var ea_nil)) (ed_op opd_in ed_var (ed_tup (ea_cons ed_int (ea_cons ed_int ea_nil)))))) h
abbrev s_is_table : Stmt := top 12
theorem sc_is_table : FnScope ["size", "value"] ["size", "value"] (defScope s_is_table) := ⟨rfl, rfl, rfl, by decide +kernel, rfl, by decide +kernel, by decide +kernel⟩
def den_is_table (fn_is_row_of_values : FnQ) : DS := (retS (callM 3 fn_is_row_of_values (consM (varM 1) (consM (opM mulP (varM 0) (varM 0)) (consM (varM 0) nilM)))))
theorem ok_is_table {fa_is_row_of_values : Addr} {fd_is_row_of_values : FuncData} {fn_is_row_of_values : FnQ} {f : Addr} {fd : FuncData} (F : Fun K.K "is_table" "is_table" s_is_table f fd) (T : Txt K mg C B fI)
    (D_is_row_of_values : Dfn P w K.K mg base CX0 4 "is_row_of_values" ["value", "length", "size"] (spQ K 3 fn_is_row_of_values) fa_is_row_of_values fd_is_row_of_values) :
    FnOk P w K.K mg base CX0 (4 + 1) f fd ["size", "value"] (spQ K 2 (denQ 2 (den_is_table fn_is_row_of_values))) := by
  refine F.ok sc_is_table (fun vs H Q E h => by obtain ⟨_, _, ds, _, _, _, h2, h3, _⟩ := h; exact h2.length.trans h3) (fun cdv A outer s H vs Q E hr h => ?_)
  refine ⟨_, (pss_one (ps_ret (pe_d D_is_row_of_values (hr.mono (by omega)) (pa_cons (pv 1) (pa_cons (pe_op (op_mulK K.K rfl) (pv 0) (pv 0)) (pa_cons (pv 0) pa_nil)))))), ?_⟩
  exact body_Q (N := ["size", "value"]) (ec := ecOf C 99) (W := fun _ _ _ _ => False) (sd_ret (ed_call (ea_cons ed_var (ea_cons (ed_op opd_mul ed_var ed_var) (ea_cons ed_var ea_nil))))) h
abbrev s_are_tables : Stmt := top 23
theorem sc_are_tables : FnScope ["size", "tables", "table"] ["size", "tables"] (defScope s_are_tables) := ⟨rfl, rfl, rfl, by decide +kernel, rfl, by decide +kernel, by decide +kernel⟩
def den_are_tables (fn_is_table : FnQ) : DS := (seqS (ifS (orB (notB (truB (isi1M "tuple" (varM 1)))) (boolM (opM gtP (caM lenP (consM (varM 1) nilM)) (conM (.int 4))))) (retS (conM (.bool false))) nextS) (retS (caM allP (consM (listM (lcM (seqI (varM 1)) (nameG 2) yesB (callM 2 fn_is_table (consM (varM 0) (consM (varM 2) nilM))) [2])) nilM))))
theorem ok_are_tables {fa_is_table : Addr} {fd_is_table : FuncData} {fn_is_table : FnQ} {f : Addr} {fd : FuncData} (F : Fun K.K "are_tables" "are_tables" s_are_tables f fd) (T : Txt K mg C B fI)
    (D_is_table : Dfn P w K.K mg base CX0 5 "is_table" ["size", "value"] (spQ K 2 fn_is_table) fa_is_table fd_is_table) :
    FnOk P w K.K mg base CX0 (5 + 1) f fd ["size", "tables"] (spQ K 2 (denQ 3 (den_are_tables fn_is_table))) := by
  refine F.ok sc_are_tables (fun vs H Q E h => by obtain ⟨_, _, ds, _, _, _, h2, h3, _⟩ := h; exact h2.length.trans h3) (fun cdv A outer s H vs Q E hr h => ?_)
  refine ⟨_, (pss_cons (ps_if (PW.pt (pw_or (pt_not (pt_truK K.K rfl (pe_callB (call_isi1K K.K rfl) (by rfl) T.b_isinstance PyProof.Rows.boot_isinstance (pa_cons (pv 1) (pa_cons (pe_bltn (v := .ty "tuple") rfl T.b_tuple PyProof.Rows.boot_tuple rfl) pa_nil))))) (pw_or1 (pt_cmpR op_gt (pe_callB (call_lenK K.K rfl) (by rfl) T.b_len PySem.boot_len (pa_cons (pv 1) pa_nil)) (pe_glob (v := .int 4) rfl T.k_MOST_TABLES.choose_spec ⟨_, rfl⟩) (nomark _))))) (pss_one (ps_ret pe_bl)) pss_nil) (pss_one (ps_ret (pe_callB (cr_allK K.K rfl rfl) (by rfl) T.b_all PyProof.Rows.boot_all (pa_cons (pe_lc (own := [("table", 2)]) rfl sc_are_tables.nd (pi_seqK K.K rfl (pv 1)) (blkOk_by (N := ["size", "tables", "table"]) (sc := defScope s_are_tables) (by decide +kernel)) (fun _ _ _ _ _ => (pg_name (i := 2) sc_are_tables.nd rfl (by first | exact Or.inl rfl | exact Or.inr rfl))) (fun _ _ _ _ _ => pts_nil) (fun _ _ _ _ _ => (pe_d D_is_table (hr.mono (by omega)) (pa_cons (pv 0) (pa_cons (pv 2) pa_nil))))) pa_nil))))), ?_⟩
  exact body_Q (N := ["size", "tables", "table"]) (ec := ecOf C 99) (W := fun _ _ _ _ => False) (sd_seq (sd_if (et_or (et_not (et_tru (ed_isi1 ed_var))) (et_test (ed_op opd_gt (ed_ca cad_len (ea_cons ed_var ea_nil)) ed_int))) (sd_ret ed_bl) sd_next) (sd_ret (ed_ca cad_all (ea_cons (Eo.ed (eo_lc (id_seq ed_var) gd_name (by decide) et_yes (ed_call (ea_cons ed_var (ea_cons ed_var ea_nil))))) ea_nil)))) h
abbrev s_need_frame : Stmt := top 18
theorem sc_need_frame : FnScope ["value", "size", "registers", "cells", "tables", "deep"] ["value"] (defScope s_need_frame) := ⟨rfl, rfl, rfl, by decide +kernel, rfl, by decide +kernel, by decide +kernel⟩
def den_need_frame (fn_is_tuple_of : FnQ) (fn_is_size : FnQ) (fn_are_tables : FnQ) (fn_is_below : FnQ) : DS := (seqS (ifS (notB (truB (callM 2 fn_is_tuple_of (consM (varM 0) (consM (conM (.int 5)) nilM))))) (raiseS 0 (unM negP (conM (.int 1)))) nextS) (seqS (asgG (seqG (consG (nameG 1) (consG (nameG 2) (consG (nameG 3) (consG (nameG 4) (consG (nameG 5) nilG)))))) (varM 0)) (seqS (ifS (notB (truB (callM 1 fn_is_size (consM (varM 1) nilM)))) (raiseS 0 (conM (.int 0))) nextS) (seqS (ifS (orB (notB (truB (callM 2 fn_is_below (consM (varM 2) (consM (opM addP (conM (.int 4)) (conM (.int 1))) nilM))))) (boolM (opM eqS (varM 2) (conM (.int 0))))) (raiseS 0 (conM (.int 1))) nextS) (seqS (ifS (orB (notB (truB (callM 2 fn_is_below (consM (varM 3) (consM (opM addP (varM 1) (conM (.int 1))) nilM))))) (boolM (opM notInP (varM 3) (tupM (consM (conM (.int 0)) (consM (varM 1) nilM)))))) (raiseS 0 (conM (.int 2))) nextS) (seqS (ifS (notB (truB (callM 2 fn_are_tables (consM (varM 1) (consM (varM 4) nilM))))) (raiseS 0 (conM (.int 3))) nextS) (seqS (ifS (notB (truB (callM 2 fn_is_below (consM (varM 5) (consM (opM addP (conM (.int 3)) (conM (.int 1))) nilM))))) (raiseS 0 (conM (.int 4))) nextS) (retS (varM 0)))))))))
theorem ok_need_frame {fa_is_tuple_of : Addr} {fd_is_tuple_of : FuncData} {fa_is_size : Addr} {fd_is_size : FuncData} {fa_are_tables : Addr} {fd_are_tables : FuncData} {fa_is_below : Addr} {fd_is_below : FuncData} {fn_is_tuple_of : FnQ} {fn_is_size : FnQ} {fn_are_tables : FnQ} {fn_is_below : FnQ} {f : Addr} {fd : FuncData} (F : Fun K.K "need_frame" "need_frame" s_need_frame f fd) (T : Txt K mg C B fI)
    (D_is_tuple_of : Dfn P w K.K mg base CX0 1 "is_tuple_of" ["value", "many"] (spQ K 2 fn_is_tuple_of) fa_is_tuple_of fd_is_tuple_of)
    (D_is_size : Dfn P w K.K mg base CX0 2 "is_size" ["value"] (spQ K 1 fn_is_size) fa_is_size fd_is_size)
    (D_are_tables : Dfn P w K.K mg base CX0 6 "are_tables" ["size", "tables"] (spQ K 2 fn_are_tables) fa_are_tables fd_are_tables)
    (D_is_below : Dfn P w K.K mg base CX0 2 "is_below" ["value", "many"] (spQ K 2 fn_is_below) fa_is_below fd_is_below) :
    FnOk P w K.K mg base (L2.CX P w) (7 + 1) f fd ["value"] (spE K (ecOf C 99) 1 (denE 6 (den_need_frame fn_is_tuple_of fn_is_size fn_are_tables fn_is_below))) := by
  refine F.okX sc_need_frame (fun vs H Q E h => by obtain ⟨_, _, ds, _, _, _, h2, h3, _⟩ := h; exact h2.length.trans h3) (fun cdv A outer s H vs Q E hr h => ?_)
  have tk := takes_of (X := cxOf (L2.CX P w) P w K.K mg base ["value", "size", "registers", "cells", "tables", "deep"] "need_frame" (defScope s_need_frame) f cdv A outer s H E) (E := E) rfl rfl rfl rfl
  refine ⟨_, (pss_cons (ps_if (pt_not (pt_truK K.K rfl (pe_d D_is_tuple_of (hr.mono (by omega)) (pa_cons (pv 0) (pa_cons pe_int pa_nil))))) (pss_one (ps_raise_A rfl T.x_InvalidFrame hr tk (pa_cons (pe_un un_neg pe_int) pa_nil) rfl (by decide))) pss_nil) (pss_cons (ps_asg (pv 0) (pg_or (pg_tupK (n := 5) K.K rfl rfl (pgs_cons (pg_name (i := 1) sc_need_frame.nd rfl (by first | exact Or.inl rfl | exact Or.inr rfl)) (pgs_cons (pg_name (i := 2) sc_need_frame.nd rfl (by first | exact Or.inl rfl | exact Or.inr rfl)) (pgs_cons (pg_name (i := 3) sc_need_frame.nd rfl (by first | exact Or.inl rfl | exact Or.inr rfl)) (pgs_cons (pg_name (i := 4) sc_need_frame.nd rfl (by first | exact Or.inl rfl | exact Or.inr rfl)) (pgs_cons (pg_name (i := 5) sc_need_frame.nd rfl (by first | exact Or.inl rfl | exact Or.inr rfl)) pgs_nil)))))) (pg_unlK (n := 5) K.K rfl rfl (pgs_cons (pg_name (i := 1) sc_need_frame.nd rfl (by first | exact Or.inl rfl | exact Or.inr rfl)) (pgs_cons (pg_name (i := 2) sc_need_frame.nd rfl (by first | exact Or.inl rfl | exact Or.inr rfl)) (pgs_cons (pg_name (i := 3) sc_need_frame.nd rfl (by first | exact Or.inl rfl | exact Or.inr rfl)) (pgs_cons (pg_name (i := 4) sc_need_frame.nd rfl (by first | exact Or.inl rfl | exact Or.inr rfl)) (pgs_cons (pg_name (i := 5) sc_need_frame.nd rfl (by first | exact Or.inl rfl | exact Or.inr rfl)) pgs_nil)))))))) (pss_cons (ps_if (pt_not (pt_truK K.K rfl (pe_d D_is_size (hr.mono (by omega)) (pa_cons (pv 1) pa_nil)))) (pss_one (ps_raise_A rfl T.x_InvalidFrame hr tk (pa_cons pe_int pa_nil) rfl (by decide))) pss_nil) (pss_cons (ps_if (PW.pt (pw_or (pt_not (pt_truK K.K rfl (pe_d D_is_below (hr.mono (by omega)) (pa_cons (pv 2) (pa_cons (pe_op (op_addK K.K rfl) (pe_glob (v := .int 4) rfl T.k_MOST_REGISTERS.choose_spec ⟨_, rfl⟩) pe_int) pa_nil))))) (pw_or1 (pt_cmpR (op_eqK K.K rfl hr.units) (pv 2) pe_int (nomark _))))) (pss_one (ps_raise_A rfl T.x_InvalidFrame hr tk (pa_cons pe_int pa_nil) rfl (by decide))) pss_nil) (pss_cons (ps_if (PW.pt (pw_or (pt_not (pt_truK K.K rfl (pe_d D_is_below (hr.mono (by omega)) (pa_cons (pv 3) (pa_cons (pe_op (op_addK K.K rfl) (pv 1) pe_int) pa_nil))))) (pw_or1 (pt_cmpR (op_notInK K.K rfl (units65 hr)) (pv 3) (pe_tup (pa_cons pe_int (pa_cons (pv 1) pa_nil))) (by rfl))))) (pss_one (ps_raise_A rfl T.x_InvalidFrame hr tk (pa_cons pe_int pa_nil) rfl (by decide))) pss_nil) (pss_cons (ps_if (pt_not (pt_truK K.K rfl (pe_d D_are_tables (hr.mono (by omega)) (pa_cons (pv 1) (pa_cons (pv 4) pa_nil))))) (pss_one (ps_raise_A rfl T.x_InvalidFrame hr tk (pa_cons pe_int pa_nil) rfl (by decide))) pss_nil) (pss_cons (ps_if (pt_not (pt_truK K.K rfl (pe_d D_is_below (hr.mono (by omega)) (pa_cons (pv 5) (pa_cons (pe_op (op_addK K.K rfl) (pe_glob (v := .int 3) rfl T.k_MOST_DEEP.choose_spec ⟨_, rfl⟩) pe_int) pa_nil))))) (pss_one (ps_raise_A rfl T.x_InvalidFrame hr tk (pa_cons pe_int pa_nil) rfl (by decide))) pss_nil) (pss_one (ps_ret (pv 0)))))))))), ?_⟩
  exact body_E (N := ["value", "size", "registers", "cells", "tables", "deep"]) (ec := ecOf C 99) (sd_seq (sd_if (et_not (et_tru (ed_call (ea_cons ed_var (ea_cons ed_int ea_nil))))) (sd_raiseA (c := 0) rfl (ed_un und_neg ed_int)) sd_next) (sd_seq (sd_asgG ed_var (gd_seq (gds_cons gd_name (gds_cons gd_name (gds_cons gd_name (gds_cons gd_name (gds_cons gd_name gds_nil))))) (.cons (.cons (.cons (.cons (.cons .nil))))))) (sd_seq (sd_if (et_not (et_tru (ed_call (ea_cons ed_var ea_nil)))) (sd_raiseA (c := 0) rfl ed_int) sd_next) (sd_seq (sd_if (et_or (et_not (et_tru (ed_call (ea_cons ed_var (ea_cons (ed_op opd_add ed_int ed_int) ea_nil))))) (et_test (ed_op opd_eqS ed_var ed_int))) (sd_raiseA (c := 0) rfl ed_int) sd_next) (sd_seq (sd_if (et_or (et_not (et_tru (ed_call (ea_cons ed_var (ea_cons (ed_op opd_add ed_var ed_int) ea_nil))))) (et_test (ed_op opd_notIn ed_var (ed_tup (ea_cons ed_int (ea_cons ed_var ea_nil)))))) (sd_raiseA (c := 0) rfl ed_int) sd_next) (sd_seq (sd_if (et_not (et_tru (ed_call (ea_cons ed_var (ea_cons ed_var ea_nil))))) (sd_raiseA (c := 0) rfl ed_int) sd_next) (sd_seq (sd_if (et_not (et_tru (ed_call (ea_cons ed_var (ea_cons (ed_op opd_add ed_int ed_int) ea_nil))))) (sd_raiseA (c := 0) rfl ed_int) sd_next) (sd_ret ed_var)))))))) h
abbrev s_spots_many : Stmt := top 24
theorem sc_spots_many : FnScope ["frame"] ["frame"] (defScope s_spots_many) := ⟨rfl, rfl, rfl, by decide +kernel, rfl, by decide +kernel, by decide +kernel⟩
def den_spots_many : DS := (retS (opM addP (opM ixP (varM 0) (conM (.int 1))) (opM ixP (varM 0) (conM (.int 2)))))
theorem ok_spots_many {f : Addr} {fd : FuncData} (F : Fun K.K "spots_many" "spots_many" s_spots_many f fd) (T : Txt K mg C B fI) :
    FnOk P w K.K mg base CX0 (0 + 1) f fd ["frame"] (spQ K 1 (denQ 1 (den_spots_many))) := by
  refine F.ok sc_spots_many (fun vs H Q E h => by obtain ⟨_, _, ds, _, _, _, h2, h3, _⟩ := h; exact h2.length.trans h3) (fun cdv A outer s H vs Q E hr h => ?_)
  refine ⟨_, (pss_one (ps_ret (pe_op (op_addK K.K rfl) (pe_ix (ix_K K.K rfl) (pv 0) pe_int (fun _ _ => rfl)) (pe_ix (ix_K K.K rfl) (pv 0) pe_int (fun _ _ => rfl))))), ?_⟩
  exact body_Q (N := ["frame"]) (ec := ecOf C 99) (W := fun _ _ _ _ => False) (sd_ret (ed_op opd_add (ed_op opd_ix ed_var ed_int) (ed_op opd_ix ed_var ed_int))) h
abbrev s_all_data : Stmt := top 19
theorem sc_all_data : FnScope ["frame", "data", "_", "datum", "value"] ["frame"] (defScope s_all_data) := ⟨rfl, rfl, rfl, by decide +kernel, rfl, by decide +kernel, by decide +kernel⟩
def den_all_data (fn_need_frame : FnE) (fn_spots_many : FnQ) : DS := (seqS (dropS (callE 1 fn_need_frame (consM (varM 0) nilM))) (seqS (asgS 1 (listM (lstM (consM (tupM nilM) nilM)))) (seqS (forS (rng1M (consM (callM 1 fn_spots_many (consM (varM 0) nilM)) nilM)) (nameG 2) (asgS 1 (listM (lc2M (seqI (varM 1)) (nameG 3) yesB (rng1M (consM (opM ixP (varM 0) (conM (.int 0))) nilM)) (nameG 4) yesB (opM addP (varM 3) (tupM (consM (varM 4) nilM))) [3, 4] [4])))) (retS (caM tupleP (consM (varM 1) nilM))))))
theorem ok_all_data {fa_need_frame : Addr} {fd_need_frame : FuncData} {fa_spots_many : Addr} {fd_spots_many : FuncData} {fn_need_frame : FnE} {fn_spots_many : FnQ} {f : Addr} {fd : FuncData} (F : Fun K.K "all_data" "all_data" s_all_data f fd) (T : Txt K mg C B fI)
    (D_need_frame : Dfn P w K.K mg base (L2.CX P w) 8 "need_frame" ["value"] (spE K (ecOf C 99) 1 fn_need_frame) fa_need_frame fd_need_frame)
    (D_spots_many : Dfn P w K.K mg base CX0 1 "spots_many" ["frame"] (spQ K 1 fn_spots_many) fa_spots_many fd_spots_many) :
    FnOk P w K.K mg base (L2.CX P w) (9 + 1) f fd ["frame"] (spE K (ecOf C 99) 1 (denE 5 (den_all_data fn_need_frame fn_spots_many))) := by
  refine F.okX sc_all_data (fun vs H Q E h => by obtain ⟨_, _, ds, _, _, _, h2, h3, _⟩ := h; exact h2.length.trans h3) (fun cdv A outer s H vs Q E hr h => ?_)
  have tk := takes_of (X := cxOf (L2.CX P w) P w K.K mg base ["frame", "data", "_", "datum", "value"] "all_data" (defScope s_all_data) f cdv A outer s H E) (E := E) rfl rfl rfl rfl
  refine ⟨_, (pss_cons (ps_expr (pe_dS D_need_frame (hr.mono (by omega)) tk (pa_cons (pv 0) pa_nil))) (pss_cons (ps_set (i := 1) sc_all_data.nd rfl (by first | exact Or.inl rfl | exact Or.inr rfl) (pe_lst (pa_cons (pe_tup pa_nil) pa_nil))) (pss_cons (ps_for PassesOwn.leaving rfl (pi_range1 rfl T.b_range (pa_cons (pe_d D_spots_many (hr.mono (by omega)) (pa_cons (pv 0) pa_nil)) pa_nil)) (pg_name (i := 2) sc_all_data.nd rfl (by first | exact Or.inl rfl | exact Or.inr rfl)) (pss_one (ps_setLc2 (i := 1) (own := [("datum", 3), ("value", 4)]) (vs1 := [4]) rfl sc_all_data.nd rfl rfl (sw_true rfl rfl rfl (by decide +kernel)) (pi_seqK K.K rfl (pv 1)) (blkOk_by (N := ["frame", "data", "_", "datum", "value"]) (sc := defScope s_all_data) (by decide +kernel)) (by decide) (fun _ _ _ _ _ => (pg_name (i := 3) sc_all_data.nd rfl (by first | exact Or.inl rfl | exact Or.inr rfl))) (fun _ _ _ _ _ => pts_nil) (fun _ _ _ _ _ => (pi_range1 rfl T.b_range (pa_cons (pe_ix (ix_K K.K rfl) (pv 0) pe_int (fun _ _ => rfl)) pa_nil))) (fun _ _ _ _ _ => (pg_name (i := 4) sc_all_data.nd rfl (by first | exact Or.inl rfl | exact Or.inr rfl))) (fun _ _ _ _ _ => pts_nil) (fun _ _ _ _ _ => (pe_op (op_addK K.K rfl) (pv 3) (pe_tup (pa_cons (pv 4) pa_nil))))))) (pss_one (ps_ret (pe_callTy (call_tupleK K.K rfl) (by rfl) T.b_tuple PyProof.Rows.boot_tuple (pa_cons (pv 1) pa_nil))))))), ?_⟩
  exact body_E (N := ["frame", "data", "_", "datum", "value"]) (ec := ecOf C 99) (sd_seq (sd_drop (ed_callE (ea_cons ed_var ea_nil))) (sd_seq (sd_asg (Eo.ed (eo_lst (ea_cons (ed_tup ea_nil) ea_nil)))) (sd_seq (sd_for (id_rng1M (ea_cons (ed_call (ea_cons ed_var ea_nil)) ea_nil)) gd_name (sd_asg (Eo.ed (eo_lc2 (id_seq ed_var) gd_name (by decide) et_yes (id_rng1M (ea_cons (ed_op opd_ix ed_var ed_int) ea_nil)) gd_name (by decide) (by decide) et_yes (ed_op opd_add ed_var (ed_tup (ea_cons ed_var ea_nil))))))) (sd_ret (ed_ca cad_tuple (ea_cons ed_var ea_nil)))))) h
abbrev s_is_datum : Stmt := top 25
theorem sc_is_datum : FnScope ["frame", "value"] ["frame", "value"] (defScope s_is_datum) := ⟨rfl, rfl, rfl, by decide +kernel, rfl, by decide +kernel, by decide +kernel⟩
def den_is_datum (fn_is_row_of_values : FnQ) (fn_spots_many : FnQ) : DS := (retS (callM 3 fn_is_row_of_values (consM (varM 1) (consM (callM 1 fn_spots_many (consM (varM 0) nilM)) (consM (opM ixP (varM 0) (conM (.int 0))) nilM)))))
theorem ok_is_datum {fa_is_row_of_values : Addr} {fd_is_row_of_values : FuncData} {fa_spots_many : Addr} {fd_spots_many : FuncData} {fn_is_row_of_values : FnQ} {fn_spots_many : FnQ} {f : Addr} {fd : FuncData} (F : Fun K.K "is_datum" "is_datum" s_is_datum f fd) (T : Txt K mg C B fI)
    (D_is_row_of_values : Dfn P w K.K mg base CX0 4 "is_row_of_values" ["value", "length", "size"] (spQ K 3 fn_is_row_of_values) fa_is_row_of_values fd_is_row_of_values)
    (D_spots_many : Dfn P w K.K mg base CX0 1 "spots_many" ["frame"] (spQ K 1 fn_spots_many) fa_spots_many fd_spots_many) :
    FnOk P w K.K mg base CX0 (4 + 1) f fd ["frame", "value"] (spQ K 2 (denQ 2 (den_is_datum fn_is_row_of_values fn_spots_many))) := by
  refine F.ok sc_is_datum (fun vs H Q E h => by obtain ⟨_, _, ds, _, _, _, h2, h3, _⟩ := h; exact h2.length.trans h3) (fun cdv A outer s H vs Q E hr h => ?_)
  refine ⟨_, (pss_one (ps_ret (pe_d D_is_row_of_values (hr.mono (by omega)) (pa_cons (pv 1) (pa_cons (pe_d D_spots_many (hr.mono (by omega)) (pa_cons (pv 0) pa_nil)) (pa_cons (pe_ix (ix_K K.K rfl) (pv 0) pe_int (fun _ _ => rfl)) pa_nil)))))), ?_⟩
  exact body_Q (N := ["frame", "value"]) (ec := ecOf C 99) (W := fun _ _ _ _ => False) (sd_ret (ed_call (ea_cons ed_var (ea_cons (ed_call (ea_cons ed_var ea_nil)) (ea_cons (ed_op opd_ix ed_var ed_int) ea_nil))))) h
abbrev s_need_datum : Stmt := top 20
theorem sc_need_datum : FnScope ["frame", "value"] ["frame", "value"] (defScope s_need_datum) := ⟨rfl, rfl, rfl, by decide +kernel, rfl, by decide +kernel, by decide +kernel⟩
def den_need_datum (fn_need_frame : FnE) (fn_is_datum : FnQ) : DS := (seqS (dropS (callE 1 fn_need_frame (consM (varM 0) nilM))) (seqS (ifS (notB (truB (callM 2 fn_is_datum (consM (varM 0) (consM (varM 1) nilM))))) (raiseS 2 (unM negP (conM (.int 1)))) nextS) (retS (varM 1))))
theorem ok_need_datum {fa_need_frame : Addr} {fd_need_frame : FuncData} {fa_is_datum : Addr} {fd_is_datum : FuncData} {fn_need_frame : FnE} {fn_is_datum : FnQ} {f : Addr} {fd : FuncData} (F : Fun K.K "need_datum" "need_datum" s_need_datum f fd) (T : Txt K mg C B fI)
    (D_need_frame : Dfn P w K.K mg base (L2.CX P w) 8 "need_frame" ["value"] (spE K (ecOf C 99) 1 fn_need_frame) fa_need_frame fd_need_frame)
    (D_is_datum : Dfn P w K.K mg base CX0 5 "is_datum" ["frame", "value"] (spQ K 2 fn_is_datum) fa_is_datum fd_is_datum) :
    FnOk P w K.K mg base (L2.CX P w) (9 + 1) f fd ["frame", "value"] (spE K (ecOf C 99) 2 (denE 2 (den_need_datum fn_need_frame fn_is_datum))) := by
  refine F.okX sc_need_datum (fun vs H Q E h => by obtain ⟨_, _, ds, _, _, _, h2, h3, _⟩ := h; exact h2.length.trans h3) (fun cdv A outer s H vs Q E hr h => ?_)
  have tk := takes_of (X := cxOf (L2.CX P w) P w K.K mg base ["frame", "value"] "need_datum" (defScope s_need_datum) f cdv A outer s H E) (E := E) rfl rfl rfl rfl
  refine ⟨_, (pss_cons (ps_expr (pe_dS D_need_frame (hr.mono (by omega)) tk (pa_cons (pv 0) pa_nil))) (pss_cons (ps_if (pt_not (pt_truK K.K rfl (pe_d D_is_datum (hr.mono (by omega)) (pa_cons (pv 0) (pa_cons (pv 1) pa_nil))))) (pss_one (ps_raise_A rfl T.x_InvalidDatum hr tk (pa_cons (pe_un un_neg pe_int) pa_nil) rfl (by decide))) pss_nil) (pss_one (ps_ret (pv 1))))), ?_⟩
  exact body_E (N := ["frame", "value"]) (ec := ecOf C 99) (sd_seq (sd_drop (ed_callE (ea_cons ed_var ea_nil))) (sd_seq (sd_if (et_not (et_tru (ed_call (ea_cons ed_var (ea_cons ed_var ea_nil))))) (sd_raiseA (c := 2) rfl (ed_un und_neg ed_int)) sd_next) (sd_ret ed_var))) h
abbrev s_is_silent_row : Stmt := top 28
theorem sc_is_silent_row : FnScope ["frame", "row"] ["frame", "row"] (defScope s_is_silent_row) := ⟨rfl, rfl, rfl, by decide +kernel, rfl, by decide +kernel, by decide +kernel⟩
def den_is_silent_row (fn_is_below : FnQ) (fn_are_below : FnQ) : DS := (seqS (ifS (orB (notB (truB (isi1M "tuple" (varM 1)))) (boolM (opM eqS (caM lenP (consM (varM 1) nilM)) (conM (.int 0))))) (retS (conM (.bool false))) nextS) (seqS (ifS (boolM (opM eqS (opM ixP (varM 1) (conM (.int 0))) (conM (.str "op")))) (retS (andV (opM eqS (caM lenP (consM (varM 1) nilM)) (conM (.int 5))) (andV (callM 2 fn_is_below (consM (opM ixP (varM 1) (conM (.int 1))) (consM (caM lenP (consM (opM ixP (varM 0) (conM (.int 3))) nilM)) nilM))) (callM 2 fn_are_below (consM (slM (varM 1) (partM (conM (.int 2))) noM) (consM (opM ixP (varM 0) (conM (.int 1))) nilM)))))) nextS) (seqS (ifS (boolM (opM inP (opM ixP (varM 1) (conM (.int 0))) (tupM (consM (conM (.str "load")) (consM (conM (.str "store")) nilM))))) (retS (andV (opM gtP (opM ixP (varM 0) (conM (.int 2))) (conM (.int 0))) (andV (opM eqS (caM lenP (consM (varM 1) nilM)) (conM (.int 3))) (callM 2 fn_are_below (consM (slM (varM 1) (partM (conM (.int 1))) noM) (consM (opM ixP (varM 0) (conM (.int 1))) nilM)))))) nextS) (retS (conM (.bool false))))))
theorem ok_is_silent_row {fa_is_below : Addr} {fd_is_below : FuncData} {fa_are_below : Addr} {fd_are_below : FuncData} {fn_is_below : FnQ} {fn_are_below : FnQ} {f : Addr} {fd : FuncData} (F : Fun K.K "is_silent_row" "is_silent_row" s_is_silent_row f fd) (T : Txt K mg C B fI)
    (D_is_below : Dfn P w K.K mg base CX0 2 "is_below" ["value", "many"] (spQ K 2 fn_is_below) fa_is_below fd_is_below)
    (D_are_below : Dfn P w K.K mg base CX0 3 "are_below" ["values", "many"] (spQ K 2 fn_are_below) fa_are_below fd_are_below) :
    FnOk P w K.K mg base CX0 (3 + 1) f fd ["frame", "row"] (spQ K 2 (denQ 2 (den_is_silent_row fn_is_below fn_are_below))) := by
  refine F.ok sc_is_silent_row (fun vs H Q E h => by obtain ⟨_, _, ds, _, _, _, h2, h3, _⟩ := h; exact h2.length.trans h3) (fun cdv A outer s H vs Q E hr h => ?_)
  refine ⟨_, (pss_cons (ps_if (PW.pt (pw_or (pt_not (pt_truK K.K rfl (pe_callB (call_isi1K K.K rfl) (by rfl) T.b_isinstance PyProof.Rows.boot_isinstance (pa_cons (pv 1) (pa_cons (pe_bltn (v := .ty "tuple") rfl T.b_tuple PyProof.Rows.boot_tuple rfl) pa_nil))))) (pw_or1 (pt_cmpR (op_eqK K.K rfl hr.units) (pe_callB (call_lenK K.K rfl) (by rfl) T.b_len PySem.boot_len (pa_cons (pv 1) pa_nil)) pe_int (nomark _))))) (pss_one (ps_ret pe_bl)) pss_nil) (pss_cons (ps_if (pt_cmpR (op_eqK K.K rfl hr.units) (pe_ix (ix_K K.K rfl) (pv 1) pe_int (fun _ _ => rfl)) pe_str (nomark _)) (pss_one (ps_ret (pe_and (pe_cmpR (op_eqK K.K rfl hr.units) (pe_callB (call_lenK K.K rfl) (by rfl) T.b_len PySem.boot_len (pa_cons (pv 1) pa_nil)) pe_int (nomark _)) (pe_and (pe_d D_is_below (hr.mono (by omega)) (pa_cons (pe_ix (ix_K K.K rfl) (pv 1) pe_int (fun _ _ => rfl)) (pa_cons (pe_callB (call_lenK K.K rfl) (by rfl) T.b_len PySem.boot_len (pa_cons (pe_ix (ix_K K.K rfl) (pv 0) pe_int (fun _ _ => rfl)) pa_nil)) pa_nil))) (pe_one (pe_d D_are_below (hr.mono (by omega)) (pa_cons (pe_slice (sl_K K.K rfl) (pv 1) (po_some pe_int) po_none) (pa_cons (pe_ix (ix_K K.K rfl) (pv 0) pe_int (fun _ _ => rfl)) pa_nil)))))))) pss_nil) (pss_cons (ps_if (pt_cmpR (op_inK K.K rfl (units65 hr)) (pe_ix (ix_K K.K rfl) (pv 1) pe_int (fun _ _ => rfl)) (pe_tup (pa_cons pe_str (pa_cons pe_str pa_nil))) (by rfl)) (pss_one (ps_ret (pe_and (pe_cmpR op_gt (pe_ix (ix_K K.K rfl) (pv 0) pe_int (fun _ _ => rfl)) pe_int (nomark _)) (pe_and (pe_cmpR (op_eqK K.K rfl hr.units) (pe_callB (call_lenK K.K rfl) (by rfl) T.b_len PySem.boot_len (pa_cons (pv 1) pa_nil)) pe_int (nomark _)) (pe_one (pe_d D_are_below (hr.mono (by omega)) (pa_cons (pe_slice (sl_K K.K rfl) (pv 1) (po_some pe_int) po_none) (pa_cons (pe_ix (ix_K K.K rfl) (pv 0) pe_int (fun _ _ => rfl)) pa_nil)))))))) pss_nil) (pss_one (ps_ret pe_bl))))), ?_⟩
  exact body_Q (N := ["frame", "row"]) (ec := ecOf C 99) (W := fun _ _ _ _ => False) (sd_seq (sd_if (et_or (et_not (et_tru (ed_isi1 ed_var))) (et_test (ed_op opd_eqS (ed_ca cad_len (ea_cons ed_var ea_nil)) ed_int))) (sd_ret ed_bl) sd_next) (sd_seq (sd_if (et_test (ed_op opd_eqS (ed_op opd_ix ed_var ed_int) ed_str)) (sd_ret (ed_and (ed_op opd_eqS (ed_ca cad_len (ea_cons ed_var ea_nil)) ed_int) (ed_and (ed_call (ea_cons (ed_op opd_ix ed_var ed_int) (ea_cons (ed_ca cad_len (ea_cons (ed_op opd_ix ed_var ed_int) ea_nil)) ea_nil))) (ed_call (ea_cons (ed_sl ed_var (eb_part ed_int) eb_no) (ea_cons (ed_op opd_ix ed_var ed_int) ea_nil)))))) sd_next) (sd_seq (sd_if (et_test (ed_op opd_in (ed_op opd_ix ed_var ed_int) (ed_tup (ea_cons ed_str (ea_cons ed_str ea_nil))))) (sd_ret (ed_and (ed_op opd_gt (ed_op opd_ix ed_var ed_int) ed_int) (ed_and (ed_op opd_eqS (ed_ca cad_len (ea_cons ed_var ea_nil)) ed_int) (ed_call (ea_cons (ed_sl ed_var (eb_part ed_int) eb_no) (ea_cons (ed_op opd_ix ed_var ed_int) ea_nil)))))) sd_next) (sd_ret ed_bl)))) h
end
end K06

namespace K06
open PySem L2 Evl Pd
section
variable {P : Program} {w : World} {K : PKt} {mg : Str → Option Value} {base : Heap} {C fI : Nat → Addr} {B : Addr}
abbrev s_is_row : Stmt := top 26
theorem sc_is_row : FnScope ["frame", "row"] ["frame", "row"] (defScope s_is_row) := ⟨rfl, rfl, rfl, by decide +kernel, rfl, by decide +kernel, by decide +kernel⟩
def den_is_row (fn_is_silent_row : FnQ) (fn_is_below : FnQ) (fn_are_rows : FnQ) : DS := (seqS (ifS (orB (notB (truB (isi1M "tuple" (varM 1)))) (boolM (opM eqS (caM lenP (consM (varM 1) nilM)) (conM (.int 0))))) (retS (conM (.bool false))) nextS) (seqS (ifS (boolM (opM eqS (opM ixP (varM 1) (conM (.int 0))) (conM (.str "fork")))) (retS (andV (opM eqS (caM lenP (consM (varM 1) nilM)) (conM (.int 4))) (andV (callM 2 fn_is_below (consM (opM ixP (varM 1) (conM (.int 1))) (consM (opM ixP (varM 0) (conM (.int 1))) nilM))) (andV (callM 2 fn_are_rows (consM (varM 0) (consM (opM ixP (varM 1) (conM (.int 2))) nilM))) (callM 2 fn_are_rows (consM (varM 0) (consM (opM ixP (varM 1) (conM (.int 3))) nilM))))))) nextS) (seqS (ifS (boolM (opM eqS (opM ixP (varM 1) (conM (.int 0))) (conM (.str "loop")))) (retS (andV (opM eqS (caM lenP (consM (varM 1) nilM)) (conM (.int 3))) (andV (callM 2 fn_is_below (consM (opM ixP (varM 1) (conM (.int 1))) (consM (opM addP (conM (.int 4)) (conM (.int 1))) nilM))) (callM 2 fn_are_rows (consM (varM 0) (consM (opM ixP (varM 1) (conM (.int 2))) nilM)))))) nextS) (retS (orV (opM eqS (varM 1) (tupM (consM (conM (.str "fence")) nilM))) (callM 2 fn_is_silent_row (consM (varM 0) (consM (varM 1) nilM))))))))
theorem ok_is_row {fa_is_silent_row : Addr} {fd_is_silent_row : FuncData} {fa_is_below : Addr} {fd_is_below : FuncData} {fa_are_rows : Addr} {fd_are_rows : FuncData} {l_are_rows : Nat} {fn_is_silent_row : FnQ} {fn_is_below : FnQ} {fn_are_rows : FnQ} {f : Addr} {fd : FuncData} (F : Fun K.K "is_row" "is_row" s_is_row f fd) (T : Txt K mg C B fI)
    (D_is_silent_row : Dfn P w K.K mg base CX0 4 "is_silent_row" ["frame", "row"] (spQ K 2 fn_is_silent_row) fa_is_silent_row fd_is_silent_row)
    (D_is_below : Dfn P w K.K mg base CX0 2 "is_below" ["value", "many"] (spQ K 2 fn_is_below) fa_is_below fd_is_below)
    (D_are_rows : Dfn P w K.K mg base CX0 l_are_rows "are_rows" ["frame", "rows"] (spQ K 2 fn_are_rows) fa_are_rows fd_are_rows) :
    FnOk P w K.K mg base CX0 (l_are_rows + 4 + 1) f fd ["frame", "row"] (spQ K 2 (denQ 2 (den_is_row fn_is_silent_row fn_is_below fn_are_rows))) := by
  refine F.ok sc_is_row (fun vs H Q E h => by obtain ⟨_, _, ds, _, _, _, h2, h3, _⟩ := h; exact h2.length.trans h3) (fun cdv A outer s H vs Q E hr h => ?_)
  refine ⟨_, (pss_cons (ps_if (PW.pt (pw_or (pt_not (pt_truK K.K rfl (pe_callB (call_isi1K K.K rfl) (by rfl) T.b_isinstance PyProof.Rows.boot_isinstance (pa_cons (pv 1) (pa_cons (pe_bltn (v := .ty "tuple") rfl T.b_tuple PyProof.Rows.boot_tuple rfl) pa_nil))))) (pw_or1 (pt_cmpR (op_eqK K.K rfl hr.units) (pe_callB (call_lenK K.K rfl) (by rfl) T.b_len PySem.boot_len (pa_cons (pv 1) pa_nil)) pe_int (nomark _))))) (pss_one (ps_ret pe_bl)) pss_nil) (pss_cons (ps_if (pt_cmpR (op_eqK K.K rfl hr.units) (pe_ix (ix_K K.K rfl) (pv 1) pe_int (fun _ _ => rfl)) pe_str (nomark _)) (pss_one (ps_ret (pe_and (pe_cmpR (op_eqK K.K rfl hr.units) (pe_callB (call_lenK K.K rfl) (by rfl) T.b_len PySem.boot_len (pa_cons (pv 1) pa_nil)) pe_int (nomark _)) (pe_and (pe_d D_is_below (hr.mono (by omega)) (pa_cons (pe_ix (ix_K K.K rfl) (pv 1) pe_int (fun _ _ => rfl)) (pa_cons (pe_ix (ix_K K.K rfl) (pv 0) pe_int (fun _ _ => rfl)) pa_nil))) (pe_and (pe_d D_are_rows (hr.mono (by omega)) (pa_cons (pv 0) (pa_cons (pe_ix (ix_K K.K rfl) (pv 1) pe_int (fun _ _ => rfl)) pa_nil))) (pe_one (pe_d D_are_rows (hr.mono (by omega)) (pa_cons (pv 0) (pa_cons (pe_ix (ix_K K.K rfl) (pv 1) pe_int (fun _ _ => rfl)) pa_nil))))))))) pss_nil) (pss_cons (ps_if (pt_cmpR (op_eqK K.K rfl hr.units) (pe_ix (ix_K K.K rfl) (pv 1) pe_int (fun _ _ => rfl)) pe_str (nomark _)) (pss_one (ps_ret (pe_and (pe_cmpR (op_eqK K.K rfl hr.units) (pe_callB (call_lenK K.K rfl) (by rfl) T.b_len PySem.boot_len (pa_cons (pv 1) pa_nil)) pe_int (nomark _)) (pe_and (pe_d D_is_below (hr.mono (by omega)) (pa_cons (pe_ix (ix_K K.K rfl) (pv 1) pe_int (fun _ _ => rfl)) (pa_cons (pe_op (op_addK K.K rfl) (pe_glob (v := .int 4) rfl T.k_MOST_TURNS.choose_spec ⟨_, rfl⟩) pe_int) pa_nil))) (pe_one (pe_d D_are_rows (hr.mono (by omega)) (pa_cons (pv 0) (pa_cons (pe_ix (ix_K K.K rfl) (pv 1) pe_int (fun _ _ => rfl)) pa_nil)))))))) pss_nil) (pss_one (ps_ret (pe_or (pe_cmpR (op_eqK K.K rfl hr.units) (pv 1) (pe_tup (pa_cons pe_str pa_nil)) (nomark _)) (pe_one (pe_d D_is_silent_row (hr.mono (by omega)) (pa_cons (pv 0) (pa_cons (pv 1) pa_nil)))))))))), ?_⟩
  exact body_Q (N := ["frame", "row"]) (ec := ecOf C 99) (W := fun _ _ _ _ => False) (sd_seq (sd_if (et_or (et_not (et_tru (ed_isi1 ed_var))) (et_test (ed_op opd_eqS (ed_ca cad_len (ea_cons ed_var ea_nil)) ed_int))) (sd_ret ed_bl) sd_next) (sd_seq (sd_if (et_test (ed_op opd_eqS (ed_op opd_ix ed_var ed_int) ed_str)) (sd_ret (ed_and (ed_op opd_eqS (ed_ca cad_len (ea_cons ed_var ea_nil)) ed_int) (ed_and (ed_call (ea_cons (ed_op opd_ix ed_var ed_int) (ea_cons (ed_op opd_ix ed_var ed_int) ea_nil))) (ed_and (ed_call (ea_cons ed_var (ea_cons (ed_op opd_ix ed_var ed_int) ea_nil))) (ed_call (ea_cons ed_var (ea_cons (ed_op opd_ix ed_var ed_int) ea_nil))))))) sd_next) (sd_seq (sd_if (et_test (ed_op opd_eqS (ed_op opd_ix ed_var ed_int) ed_str)) (sd_ret (ed_and (ed_op opd_eqS (ed_ca cad_len (ea_cons ed_var ea_nil)) ed_int) (ed_and (ed_call (ea_cons (ed_op opd_ix ed_var ed_int) (ea_cons (ed_op opd_add ed_int ed_int) ea_nil))) (ed_call (ea_cons ed_var (ea_cons (ed_op opd_ix ed_var ed_int) ea_nil)))))) sd_next) (sd_ret (ed_or (ed_op opd_eqS ed_var (ed_tup (ea_cons ed_str ea_nil))) (ed_call (ea_cons ed_var (ea_cons ed_var ea_nil)))))))) h
abbrev s_are_rows : Stmt := top 27
theorem sc_are_rows : FnScope ["frame", "rows", "row"] ["frame", "rows"] (defScope s_are_rows) := ⟨rfl, rfl, rfl, by decide +kernel, rfl, by decide +kernel, by decide +kernel⟩
def den_are_rows (fn_is_row : FnQ) : DS := (retS (andV (isi1M "tuple" (varM 1)) (caM allP (consM (listM (lcM (seqI (varM 1)) (nameG 2) yesB (callM 2 fn_is_row (consM (varM 0) (consM (varM 2) nilM))) [2])) nilM))))
theorem ok_are_rows {fa_is_row : Addr} {fd_is_row : FuncData} {l_is_row : Nat} {fn_is_row : FnQ} {f : Addr} {fd : FuncData} (F : Fun K.K "are_rows" "are_rows" s_are_rows f fd) (T : Txt K mg C B fI)
    (D_is_row : Dfn P w K.K mg base CX0 l_is_row "is_row" ["frame", "row"] (spQ K 2 fn_is_row) fa_is_row fd_is_row) :
    FnOk P w K.K mg base CX0 (l_is_row + 0 + 1) f fd ["frame", "rows"] (spQ K 2 (denQ 3 (den_are_rows fn_is_row))) := by
  refine F.ok sc_are_rows (fun vs H Q E h => by obtain ⟨_, _, ds, _, _, _, h2, h3, _⟩ := h; exact h2.length.trans h3) (fun cdv A outer s H vs Q E hr h => ?_)
  refine ⟨_, (pss_one (ps_ret (pe_and (pe_callB (call_isi1K K.K rfl) (by rfl) T.b_isinstance PyProof.Rows.boot_isinstance (pa_cons (pv 1) (pa_cons (pe_bltn (v := .ty "tuple") rfl T.b_tuple PyProof.Rows.boot_tuple rfl) pa_nil))) (pe_one (pe_callB (cr_allK K.K rfl rfl) (by rfl) T.b_all PyProof.Rows.boot_all (pa_cons (pe_lc (own := [("row", 2)]) rfl sc_are_rows.nd (pi_seqK K.K rfl (pv 1)) (blkOk_by (N := ["frame", "rows", "row"]) (sc := defScope s_are_rows) (by decide +kernel)) (fun _ _ _ _ _ => (pg_name (i := 2) sc_are_rows.nd rfl (by first | exact Or.inl rfl | exact Or.inr rfl))) (fun _ _ _ _ _ => pts_nil) (fun _ _ _ _ _ => (pe_d D_is_row (hr.mono (by omega)) (pa_cons (pv 0) (pa_cons (pv 2) pa_nil))))) pa_nil)))))), ?_⟩
  exact body_Q (N := ["frame", "rows", "row"]) (ec := ecOf C 99) (W := fun _ _ _ _ => False) (sd_ret (ed_and (ed_isi1 ed_var) (ed_ca cad_all (ea_cons (Eo.ed (eo_lc (id_seq ed_var) gd_name (by decide) et_yes (ed_call (ea_cons ed_var (ea_cons ed_var ea_nil))))) ea_nil)))) h
abbrev s_need_program : Stmt := top 21
theorem sc_need_program : FnScope ["frame", "value", "at", "row"] ["frame", "value"] (defScope s_need_program) := ⟨rfl, rfl, rfl, by decide +kernel, rfl, by decide +kernel, by decide +kernel⟩
def den_need_program (fn_need_frame : FnE) (fn_is_row : FnQ) : DS := (seqS (dropS (callE 1 fn_need_frame (consM (varM 0) nilM))) (seqS (ifS (notB (truB (isi1M "tuple" (varM 1)))) (raiseS 1 (unM negP (conM (.int 1)))) nextS) (seqS (forS (enumSI (consM (varM 1) nilM)) (seqG (consG (nameG 2) (consG (nameG 3) nilG))) (ifS (notB (truB (callM 2 fn_is_row (consM (varM 0) (consM (varM 3) nilM))))) (raiseS 1 (varM 2)) nextS)) (retS (varM 1)))))
theorem ok_need_program {fa_need_frame : Addr} {fd_need_frame : FuncData} {fa_is_row : Addr} {fd_is_row : FuncData} {fn_need_frame : FnE} {fn_is_row : FnQ} {f : Addr} {fd : FuncData} (F : Fun K.K "need_program" "need_program" s_need_program f fd) (T : Txt K mg C B fI)
    (D_need_frame : Dfn P w K.K mg base (L2.CX P w) 8 "need_frame" ["value"] (spE K (ecOf C 99) 1 fn_need_frame) fa_need_frame fd_need_frame)
    (D_is_row : Dfn P w K.K mg base CX0 48 "is_row" ["frame", "row"] (spQ K 2 fn_is_row) fa_is_row fd_is_row) :
    FnOk P w K.K mg base (L2.CX P w) (49 + 1) f fd ["frame", "value"] (spE K (ecOf C 99) 2 (denE 4 (den_need_program fn_need_frame fn_is_row))) := by
  refine F.okX sc_need_program (fun vs H Q E h => by obtain ⟨_, _, ds, _, _, _, h2, h3, _⟩ := h; exact h2.length.trans h3) (fun cdv A outer s H vs Q E hr h => ?_)
  have tk := takes_of (X := cxOf (L2.CX P w) P w K.K mg base ["frame", "value", "at", "row"] "need_program" (defScope s_need_program) f cdv A outer s H E) (E := E) rfl rfl rfl rfl
  refine ⟨_, (pss_cons (ps_expr (pe_dS D_need_frame (hr.mono (by omega)) tk (pa_cons (pv 0) pa_nil))) (pss_cons (ps_if (pt_not (pt_truK K.K rfl (pe_callB (call_isi1K K.K rfl) (by rfl) T.b_isinstance PyProof.Rows.boot_isinstance (pa_cons (pv 1) (pa_cons (pe_bltn (v := .ty "tuple") rfl T.b_tuple PyProof.Rows.boot_tuple rfl) pa_nil))))) (pss_one (ps_raise_A rfl T.x_InvalidProgram hr tk (pa_cons (pe_un un_neg pe_int) pa_nil) rfl (by decide))) pss_nil) (pss_cons (ps_for PassesOwn.leaving rfl (pi_enumK K.K rfl rfl T.b_enumerate (pa_cons (pv 1) pa_nil)) (pg_or (pg_tupK (n := 2) K.K rfl rfl (pgs_cons (pg_name (i := 2) sc_need_program.nd rfl (by first | exact Or.inl rfl | exact Or.inr rfl)) (pgs_cons (pg_name (i := 3) sc_need_program.nd rfl (by first | exact Or.inl rfl | exact Or.inr rfl)) pgs_nil))) (pg_unlK (n := 2) K.K rfl rfl (pgs_cons (pg_name (i := 2) sc_need_program.nd rfl (by first | exact Or.inl rfl | exact Or.inr rfl)) (pgs_cons (pg_name (i := 3) sc_need_program.nd rfl (by first | exact Or.inl rfl | exact Or.inr rfl)) pgs_nil)))) (pss_one (ps_if (pt_not (pt_truK K.K rfl (pe_d D_is_row (hr.mono (by omega)) (pa_cons (pv 0) (pa_cons (pv 3) pa_nil))))) (pss_one (ps_raise_A rfl T.x_InvalidProgram hr tk (pa_cons (pv 2) pa_nil) rfl (by decide))) pss_nil))) (pss_one (ps_ret (pv 1)))))), ?_⟩
  exact body_E (N := ["frame", "value", "at", "row"]) (ec := ecOf C 99) (sd_seq (sd_drop (ed_callE (ea_cons ed_var ea_nil))) (sd_seq (sd_if (et_not (et_tru (ed_isi1 ed_var))) (sd_raiseA (c := 1) rfl (ed_un und_neg ed_int)) sd_next) (sd_seq (sd_for (id_enumS (ea_cons ed_var ea_nil)) (gd_seq (gds_cons gd_name (gds_cons gd_name gds_nil)) (.cons (.cons .nil))) (sd_if (et_not (et_tru (ed_call (ea_cons ed_var (ea_cons ed_var ea_nil))))) (sd_raiseA (c := 1) rfl ed_var) sd_next)) (sd_ret ed_var)))) h
abbrev s_unrolled_rows : Stmt := top 29
theorem sc_unrolled_rows : FnScope ["rows", "told", "row"] ["rows"] (defScope s_unrolled_rows) := ⟨rfl, rfl, rfl, by decide +kernel, rfl, by decide +kernel, by decide +kernel⟩
def den_unrolled_rows (fn_unrolled_rows : FnQ) : DS := (seqS (asgO 1 (lstM nilM)) (seqS (forS (seqI (varM 0)) (nameG 2) (ifS (boolM (opM eqS (opM ixP (varM 2) (conM (.int 0))) (conM (.str "loop")))) (extS 1 (opM mulP (callM 1 fn_unrolled_rows (consM (opM ixP (varM 2) (conM (.int 2))) nilM)) (opM ixP (varM 2) (conM (.int 1))))) (ifS (boolM (opM eqS (opM ixP (varM 2) (conM (.int 0))) (conM (.str "fork")))) (appS 1 (tupM (consM (conM (.str "fork")) (consM (opM ixP (varM 2) (conM (.int 1))) (consM (callM 1 fn_unrolled_rows (consM (opM ixP (varM 2) (conM (.int 2))) nilM)) (consM (callM 1 fn_unrolled_rows (consM (opM ixP (varM 2) (conM (.int 3))) nilM)) nilM)))))) (appS 1 (varM 2))))) (retS (tupOM 1))))
theorem ok_unrolled_rows {fa_unrolled_rows : Addr} {fd_unrolled_rows : FuncData} {l_unrolled_rows : Nat} {fn_unrolled_rows : FnQ} {f : Addr} {fd : FuncData} (F : Fun K.K "unrolled_rows" "unrolled_rows" s_unrolled_rows f fd) (T : Txt K mg C B fI)
    (D_unrolled_rows : Dfn P w K.K mg base CX0 l_unrolled_rows "unrolled_rows" ["rows"] (spQ K 1 fn_unrolled_rows) fa_unrolled_rows fd_unrolled_rows) :
    FnOk P w K.K mg base CX0 (l_unrolled_rows + 0 + 1) f fd ["rows"] (spQ K 1 (denQ 3 (den_unrolled_rows fn_unrolled_rows))) := by
  refine F.ok sc_unrolled_rows (fun vs H Q E h => by obtain ⟨_, _, ds, _, _, _, h2, h3, _⟩ := h; exact h2.length.trans h3) (fun cdv A outer s H vs Q E hr h => ?_)
  refine ⟨_, (pss_cons (ps_set (i := 1) sc_unrolled_rows.nd rfl (by first | exact Or.inl rfl | exact Or.inr rfl) (pe_lst pa_nil)) (pss_cons (ps_for PassesOwn.never rfl (pi_seqK K.K rfl (pv 0)) (pg_name (i := 2) sc_unrolled_rows.nd rfl (by first | exact Or.inl rfl | exact Or.inr rfl)) (pss_one (ps_if (pt_cmpR (op_eqK K.K rfl hr.units) (pe_ix (ix_K K.K rfl) (pv 2) pe_int (fun _ _ => rfl)) pe_str (nomark _)) (pss_one (ps_expr (pe_bm PySem.F.plainAttrs_list PySem.F.slot_list_extend PySem.F.type_list_extend (mt_extendS K.K rfl) (pv 1) (pa_cons (pe_op (op_mulK K.K rfl) (pe_d D_unrolled_rows (hr.mono (by omega)) (pa_cons (pe_ix (ix_K K.K rfl) (pv 2) pe_int (fun _ _ => rfl)) pa_nil)) (pe_ix (ix_K K.K rfl) (pv 2) pe_int (fun _ _ => rfl))) pa_nil)))) (pss_one (ps_if (pt_cmpR (op_eqK K.K rfl hr.units) (pe_ix (ix_K K.K rfl) (pv 2) pe_int (fun _ _ => rfl)) pe_str (nomark _)) (pss_one (ps_expr (pe_bm PySem.F.plainAttrs_list PySem.F.slot_list_append PySem.F.type_list_append mt_append (pv 1) (pa_cons (pe_tup (pa_cons pe_str (pa_cons (pe_ix (ix_K K.K rfl) (pv 2) pe_int (fun _ _ => rfl)) (pa_cons (pe_d D_unrolled_rows (hr.mono (by omega)) (pa_cons (pe_ix (ix_K K.K rfl) (pv 2) pe_int (fun _ _ => rfl)) pa_nil)) (pa_cons (pe_d D_unrolled_rows (hr.mono (by omega)) (pa_cons (pe_ix (ix_K K.K rfl) (pv 2) pe_int (fun _ _ => rfl)) pa_nil)) pa_nil))))) pa_nil)))) (pss_one (ps_expr (pe_bm PySem.F.plainAttrs_list PySem.F.slot_list_append PySem.F.type_list_append mt_append (pv 1) (pa_cons (pv 2) pa_nil))))))))) (pss_one (ps_ret (pe_callTy (call_tupleK K.K rfl) (by rfl) T.b_tuple PyProof.Rows.boot_tuple (pa_cons (pv 1) pa_nil)))))), ?_⟩
  exact body_Q (N := ["rows", "told", "row"]) (ec := ecOf C 99) (W := fun _ _ _ _ => False) (sd_seq (sd_asgO (eo_lst ea_nil)) (sd_seq (sd_for (id_seq ed_var) gd_name (sd_if (et_test (ed_op opd_eqS (ed_op opd_ix ed_var ed_int) ed_str)) (sd_ext (ed_op opd_mul (ed_call (ea_cons (ed_op opd_ix ed_var ed_int) ea_nil)) (ed_op opd_ix ed_var ed_int))) (sd_if (et_test (ed_op opd_eqS (ed_op opd_ix ed_var ed_int) ed_str)) (sd_app (ed_tup (ea_cons ed_str (ea_cons (ed_op opd_ix ed_var ed_int) (ea_cons (ed_call (ea_cons (ed_op opd_ix ed_var ed_int) ea_nil)) (ea_cons (ed_call (ea_cons (ed_op opd_ix ed_var ed_int) ea_nil)) ea_nil)))))) (sd_app ed_var)))) (sd_ret ed_tupO))) h
abbrev s_unrolled : Stmt := top 22
theorem sc_unrolled : FnScope ["frame", "program"] ["frame", "program"] (defScope s_unrolled) := ⟨rfl, rfl, rfl, by decide +kernel, rfl, by decide +kernel, by decide +kernel⟩
def den_unrolled (fn_need_program : FnE) (fn_unrolled_rows : FnQ) : DS := (seqS (dropS (callE 2 fn_need_program (consM (varM 0) (consM (varM 1) nilM)))) (retS (callM 1 fn_unrolled_rows (consM (varM 1) nilM))))
theorem ok_unrolled {fa_need_program : Addr} {fd_need_program : FuncData} {fa_unrolled_rows : Addr} {fd_unrolled_rows : FuncData} {fn_need_program : FnE} {fn_unrolled_rows : FnQ} {f : Addr} {fd : FuncData} (F : Fun K.K "unrolled" "unrolled" s_unrolled f fd) (T : Txt K mg C B fI)
    (D_need_program : Dfn P w K.K mg base (L2.CX P w) 50 "need_program" ["frame", "value"] (spE K (ecOf C 99) 2 fn_need_program) fa_need_program fd_need_program)
    (D_unrolled_rows : Dfn P w K.K mg base CX0 8 "unrolled_rows" ["rows"] (spQ K 1 fn_unrolled_rows) fa_unrolled_rows fd_unrolled_rows) :
    FnOk P w K.K mg base (L2.CX P w) (51 + 1) f fd ["frame", "program"] (spE K (ecOf C 99) 2 (denE 2 (den_unrolled fn_need_program fn_unrolled_rows))) := by
  refine F.okX sc_unrolled (fun vs H Q E h => by obtain ⟨_, _, ds, _, _, _, h2, h3, _⟩ := h; exact h2.length.trans h3) (fun cdv A outer s H vs Q E hr h => ?_)
  have tk := takes_of (X := cxOf (L2.CX P w) P w K.K mg base ["frame", "program"] "unrolled" (defScope s_unrolled) f cdv A outer s H E) (E := E) rfl rfl rfl rfl
  refine ⟨_, (pss_cons (ps_expr (pe_dS D_need_program (hr.mono (by omega)) tk (pa_cons (pv 0) (pa_cons (pv 1) pa_nil)))) (pss_one (ps_ret (pe_d D_unrolled_rows (hr.mono (by omega)) (pa_cons (pv 1) pa_nil))))), ?_⟩
  exact body_E (N := ["frame", "program"]) (ec := ecOf C 99) (sd_seq (sd_drop (ed_callE (ea_cons ed_var (ea_cons ed_var ea_nil)))) (sd_ret (ed_call (ea_cons ed_var ea_nil)))) h
abbrev s__law_box : Stmt := top 31
theorem sc__law_box : FnScope ["script", "k", "cell"] ["script", "k"] (defScope s__law_box) := ⟨rfl, rfl, rfl, by decide +kernel, rfl, by decide +kernel, by decide +kernel⟩
def den__law_box : DS := (seqS (asgS 2 (opM addP (opM mulP (conM (.int 8543)) (varM 1)) (conM (.int 751)))) (seqS (ifS (boolM (opM ltP (varM 1) (caM lenP (consM (varM 0) nilM)))) (asgS 2 (caM absP (consM (opM ixP (varM 0) (varM 1)) nilM))) (ifS (boolM (opM gtP (caM lenP (consM (varM 0) nilM)) (conM (.int 0)))) (asgS 2 (opM addP (varM 2) (opM mulP (opM modP (caM intP (consM (caM absP (consM (opM ixP (varM 0) (opM modP (caM intP (consM (varM 1) nilM)) (caM lenP (consM (varM 0) nilM)))) nilM)) nilM)) (conM (.int 2147483629))) (conM (.int 60497))))) nextS)) (retO (lstM (consM (opM ixP (listM (lstM (consM (conM (.int 0)) (consM (varM 2) nilM)))) (caM intP (consM (opM geP (varM 2) (opM powP (conM (.int 10)) (conM (.int 18)))) nilM))) (consM (opM addP (opM modP (caM intP (consM (opM addP (opM mulP (opM modP (caM intP (consM (varM 2) nilM)) (conM (.int 2147483629))) (conM (.int 38569))) (opM mulP (conM (.int 71233)) (varM 1))) nilM)) (conM (.int 2147483629))) (conM (.int 1))) (consM (conM (.int 0)) nilM)))))))
theorem ok__law_box {f : Addr} {fd : FuncData} (F : Fun K.K "_law_box" "_law_box" s__law_box f fd) (T : Txt K mg C B fI) :
    FnOk P w K.K mg base CX0 (0 + 1) f fd ["script", "k"] (spN K 2 (denN 3 (den__law_box))) := by
  refine F.ok sc__law_box (fun vs H Q E h => by obtain ⟨_, _, ds, _, _, _, h2, h3, _⟩ := h; exact h2.length.trans h3) (fun cdv A outer s H vs Q E hr h => ?_)
  refine ⟨_, (pss_cons (ps_set (i := 2) sc__law_box.nd rfl (by first | exact Or.inl rfl | exact Or.inr rfl) (pe_op (op_addK K.K rfl) (pe_op (op_mulK K.K rfl) pe_int (pv 1)) pe_int)) (pss_cons (ps_if (pt_cmpR op_lt (pv 1) (pe_callB (call_lenK K.K rfl) (by rfl) T.b_len PySem.boot_len (pa_cons (pv 0) pa_nil)) (nomark _)) (pss_one (ps_set (i := 2) sc__law_box.nd rfl (by first | exact Or.inl rfl | exact Or.inr rfl) (pe_callB call_abs (by rfl) T.b_abs PyProof.Rows.boot_abs (pa_cons (pe_ix (ix_K K.K rfl) (pv 0) (pv 1) (fun _ _ => rfl)) pa_nil)))) (pss_one (ps_if (pt_cmpR op_gt (pe_callB (call_lenK K.K rfl) (by rfl) T.b_len PySem.boot_len (pa_cons (pv 0) pa_nil)) pe_int (nomark _)) (pss_one (ps_set (i := 2) sc__law_box.nd rfl (by first | exact Or.inl rfl | exact Or.inr rfl) (pe_op (op_addK K.K rfl) (pv 2) (pe_op (op_mulK K.K rfl) (pe_op op_mod (pe_callTy call_int1 (by rfl) T.b_int PyProof.Rows.boot_int (pa_cons (pe_callB call_abs (by rfl) T.b_abs PyProof.Rows.boot_abs (pa_cons (pe_ix (ix_K K.K rfl) (pv 0) (pe_op op_mod (pe_callTy call_int1 (by rfl) T.b_int PyProof.Rows.boot_int (pa_cons (pv 1) pa_nil)) (pe_callB (call_lenK K.K rfl) (by rfl) T.b_len PySem.boot_len (pa_cons (pv 0) pa_nil))) (fun _ _ => rfl)) pa_nil)) pa_nil)) pe_int) pe_int)))) pss_nil))) (pss_one (ps_ret (pe_lst (pa_cons (pe_ix (ix_K K.K rfl) (pe_lst (pa_cons pe_int (pa_cons (pv 2) pa_nil))) (pe_callTy call_int1 (by rfl) T.b_int PyProof.Rows.boot_int (pa_cons (pe_cmpR op_ge (pv 2) (pe_op op_pow pe_int pe_int) (nomark _)) pa_nil)) (fun _ _ => rfl)) (pa_cons (pe_op (op_addK K.K rfl) (pe_op op_mod (pe_callTy call_int1 (by rfl) T.b_int PyProof.Rows.boot_int (pa_cons (pe_op (op_addK K.K rfl) (pe_op (op_mulK K.K rfl) (pe_op op_mod (pe_callTy call_int1 (by rfl) T.b_int PyProof.Rows.boot_int (pa_cons (pv 2) pa_nil)) pe_int) pe_int) (pe_op (op_mulK K.K rfl) pe_int (pv 1))) pa_nil)) pe_int) pe_int) (pa_cons pe_int pa_nil)))))))), ?_⟩
  exact body_N (N := ["script", "k", "cell"]) (ec := ecOf C 99) (W := fun _ _ _ _ => False) (sd_seq (sd_asg (ed_op opd_add (ed_op opd_mul ed_int ed_var) ed_int)) (sd_seq (sd_if (et_test (ed_op opd_lt ed_var (ed_ca cad_len (ea_cons ed_var ea_nil)))) (sd_asg (ed_ca cad_abs (ea_cons (ed_op opd_ix ed_var ed_var) ea_nil))) (sd_if (et_test (ed_op opd_gt (ed_ca cad_len (ea_cons ed_var ea_nil)) ed_int)) (sd_asg (ed_op opd_add ed_var (ed_op opd_mul (ed_op opd_mod (ed_ca cad_int (ea_cons (ed_ca cad_abs (ea_cons (ed_op opd_ix ed_var (ed_op opd_mod (ed_ca cad_int (ea_cons ed_var ea_nil)) (ed_ca cad_len (ea_cons ed_var ea_nil)))) ea_nil)) ea_nil)) ed_int) ed_int))) sd_next)) (sd_retO (eo_lst (ea_cons (ed_op opd_ix (Eo.ed (eo_lst (ea_cons ed_int (ea_cons ed_var ea_nil)))) (ed_ca cad_int (ea_cons (ed_op opd_ge ed_var (ed_op opd_pow ed_int ed_int)) ea_nil))) (ea_cons (ed_op opd_add (ed_op opd_mod (ed_ca cad_int (ea_cons (ed_op opd_add (ed_op opd_mul (ed_op opd_mod (ed_ca cad_int (ea_cons ed_var ea_nil)) ed_int) ed_int) (ed_op opd_mul ed_int ed_var)) ea_nil)) ed_int) ed_int) (ea_cons ed_int ea_nil))))))) h
abbrev s__law_take : Stmt := top 32
theorem sc__law_take : FnScope ["box", "many", "digit", "raw"] ["box", "many"] (defScope s__law_take) := ⟨rfl, rfl, rfl, by decide +kernel, rfl, by decide +kernel, by decide +kernel⟩
def den__law_take : DS := (seqS (ifS (boolM (opM gtP (ixOM 0 (conM (.int 0))) (conM (.int 0)))) (seqS (asgS 2 (opM modP (caM intP (consM (ixOM 0 (conM (.int 0))) nilM)) (varM 1))) (seqS (setS 0 (conM (.int 0)) (opM divP (ixOM 0 (conM (.int 0))) (varM 1))) (retS (varM 2)))) nextS) (seqS (setS 0 (conM (.int 2)) (opM addP (ixOM 0 (conM (.int 2))) (conM (.int 1)))) (seqS (asgS 3 (opM modP (caM intP (consM (opM addP (opM mulP (opM addP (ixOM 0 (conM (.int 1))) (opM mulP (conM (.int 90089)) (ixOM 0 (conM (.int 2))))) (conM (.int 58217))) (conM (.int 43))) nilM)) (conM (.int 2147483563)))) (seqS (setS 0 (conM (.int 1)) (opM addP (opM modP (caM intP (consM (opM addP (opM mulP (varM 3) (conM (.int 40289))) (conM (.int 27367))) nilM)) (conM (.int 2147483629))) (conM (.int 1)))) (retS (opM modP (caM intP (consM (opM divP (opM addP (opM mulP (varM 3) (conM (.int 2147483647))) (ixOM 0 (conM (.int 1)))) (conM (.int 8191))) nilM)) (varM 1)))))))
theorem ok__law_take {f : Addr} {fd : FuncData} (F : Fun K.K "_law_take" "_law_take" s__law_take f fd) (T : Txt K mg C B fI) :
    FnOk P w K.K mg base CX0 (0 + 1) f fd ["box", "many"] (spB K 1 (denB 4 (den__law_take))) := by
  refine F.ok sc__law_take (fun vs H Q E h => by obtain ⟨_, _, a, bs, bd, ws, ds, d, bd2, rfl, _, _, _, _, _, h2, h3, _⟩ := h; exact congrArg (· + 1) (h2.length.trans h3)) (fun cdv A outer s H vs Q E hr h => ?_)
  refine ⟨_, (pss_cons (ps_if (pt_cmpR op_gt (pe_ix (ix_K K.K rfl) (pv 0) pe_int (fun _ _ => rfl)) pe_int (nomark _)) (pss_cons (ps_set (i := 2) sc__law_take.nd rfl (by first | exact Or.inl rfl | exact Or.inr rfl) (pe_op op_mod (pe_callTy call_int1 (by rfl) T.b_int PyProof.Rows.boot_int (pa_cons (pe_ix (ix_K K.K rfl) (pv 0) pe_int (fun _ _ => rfl)) pa_nil)) (pv 1))) (pss_cons (ps_asg (pe_op op_fdivW (pe_ix (ix_K K.K rfl) (pv 0) pe_int (fun _ _ => rfl)) (pv 1)) (pg_sub (pv 0) pe_int set_list)) (pss_one (ps_ret (pv 2))))) pss_nil) (pss_cons (ps_asg (pe_op (op_addK K.K rfl) (pe_ix (ix_K K.K rfl) (pv 0) pe_int (fun _ _ => rfl)) pe_int) (pg_sub (pv 0) pe_int set_list)) (pss_cons (ps_set (i := 3) sc__law_take.nd rfl (by first | exact Or.inl rfl | exact Or.inr rfl) (pe_op op_mod (pe_callTy call_int1 (by rfl) T.b_int PyProof.Rows.boot_int (pa_cons (pe_op (op_addK K.K rfl) (pe_op (op_mulK K.K rfl) (pe_op (op_addK K.K rfl) (pe_ix (ix_K K.K rfl) (pv 0) pe_int (fun _ _ => rfl)) (pe_op (op_mulK K.K rfl) pe_int (pe_ix (ix_K K.K rfl) (pv 0) pe_int (fun _ _ => rfl)))) pe_int) pe_int) pa_nil)) pe_int)) (pss_cons (ps_asg (pe_op (op_addK K.K rfl) (pe_op op_mod (pe_callTy call_int1 (by rfl) T.b_int PyProof.Rows.boot_int (pa_cons (pe_op (op_addK K.K rfl) (pe_op (op_mulK K.K rfl) (pv 3) pe_int) pe_int) pa_nil)) pe_int) pe_int) (pg_sub (pv 0) pe_int set_list)) (pss_one (ps_ret (pe_op op_mod (pe_callTy call_int1 (by rfl) T.b_int PyProof.Rows.boot_int (pa_cons (pe_op op_fdivW (pe_op (op_addK K.K rfl) (pe_op (op_mulK K.K rfl) (pv 3) pe_int) (pe_ix (ix_K K.K rfl) (pv 0) pe_int (fun _ _ => rfl))) pe_int) pa_nil)) (pv 1)))))))), ?_⟩
  exact body_B (N := ["box", "many", "digit", "raw"]) (ec := ecOf C 99) (W := fun _ _ _ _ => False) (sd_seq (sd_if (et_test (ed_op opd_gt (ed_ixO ed_int) ed_int)) (sd_seq (sd_asg (ed_op opd_mod (ed_ca cad_int (ea_cons (ed_ixO ed_int) ea_nil)) ed_var)) (sd_seq (sd_set ed_int (ed_op opd_div (ed_ixO ed_int) ed_var)) (sd_ret ed_var))) sd_next) (sd_seq (sd_set ed_int (ed_op opd_add (ed_ixO ed_int) ed_int)) (sd_seq (sd_asg (ed_op opd_mod (ed_ca cad_int (ea_cons (ed_op opd_add (ed_op opd_mul (ed_op opd_add (ed_ixO ed_int) (ed_op opd_mul ed_int (ed_ixO ed_int))) ed_int) ed_int) ea_nil)) ed_int)) (sd_seq (sd_set ed_int (ed_op opd_add (ed_op opd_mod (ed_ca cad_int (ea_cons (ed_op opd_add (ed_op opd_mul ed_var ed_int) ed_int) ea_nil)) ed_int) ed_int)) (sd_ret (ed_op opd_mod (ed_ca cad_int (ea_cons (ed_op opd_div (ed_op opd_add (ed_op opd_mul ed_var ed_int) (ed_ixO ed_int)) ed_int) ea_nil)) ed_var)))))) h
end
end K06

namespace K06
open PySem L2 Evl Pd
section
variable {P : Program} {w : World} {K : PKt} {mg : Str → Option Value} {base : Heap} {C fI : Nat → Addr} {B : Addr}
abbrev s__law_pick : Stmt := top 33
theorem sc__law_pick : FnScope ["box", "some"] ["box", "some"] (defScope s__law_pick) := ⟨rfl, rfl, rfl, by decide +kernel, rfl, by decide +kernel, by decide +kernel⟩
def den__law_pick (fn__law_take : FnB) : DS := (retS (opM ixP (varM 1) (callB 1 0 fn__law_take (consM (caM lenP (consM (varM 1) nilM)) nilM))))
theorem ok__law_pick {fa__law_take : Addr} {fd__law_take : FuncData} {fn__law_take : FnB} {f : Addr} {fd : FuncData} (F : Fun K.K "_law_pick" "_law_pick" s__law_pick f fd) (T : Txt K mg C B fI)
    (D__law_take : Dfn P w K.K mg base CX0 1 "_law_take" ["box", "many"] (spB K 1 fn__law_take) fa__law_take fd__law_take) :
    FnOk P w K.K mg base CX0 (1 + 1) f fd ["box", "some"] (spB K 1 (denB 2 (den__law_pick fn__law_take))) := by
  refine F.ok sc__law_pick (fun vs H Q E h => by obtain ⟨_, _, a, bs, bd, ws, ds, d, bd2, rfl, _, _, _, _, _, h2, h3, _⟩ := h; exact congrArg (· + 1) (h2.length.trans h3)) (fun cdv A outer s H vs Q E hr h => ?_)
  refine ⟨_, (pss_one (ps_ret (pe_ix (ix_K K.K rfl) (pv 1) (pe_d D__law_take (hr.mono (by omega)) (pa_cons (pv 0) (pa_cons (pe_callB (call_lenK K.K rfl) (by rfl) T.b_len PySem.boot_len (pa_cons (pv 1) pa_nil)) pa_nil))) (fun _ _ => rfl)))), ?_⟩
  exact body_B (N := ["box", "some"]) (ec := ecOf C 99) (W := fun _ _ _ _ => False) (sd_ret (ed_op opd_ix ed_var (ed_callB (ea_cons (ed_ca cad_len (ea_cons ed_var ea_nil)) ea_nil)))) h
abbrev s__law_frame : Stmt := top 34
theorem sc__law_frame : FnScope ["box", "size", "tables", "turn", "cell"] ["box"] (defScope s__law_frame) := ⟨rfl, rfl, rfl, by decide +kernel, rfl, by decide +kernel, by decide +kernel⟩
def den__law_frame (fn__law_pick : FnB) (fn__law_take : FnB) : DS := (seqS (asgS 1 (opM addP (conM (.int 2)) (opM divP (callB 1 0 fn__law_take (consM (conM (.int 5)) nilM)) (conM (.int 4))))) (seqS (asgO 2 (lstM nilM)) (seqS (forS (rng1M (consM (opM addP (conM (.int 1)) (callB 1 0 fn__law_take (consM (conM (.int 2)) nilM))) nilM)) (nameG 3) (appS 2 (caM tupleP (consM (listM (lcM (rng1M (consM (opM powP (varM 1) (conM (.int 2))) nilM)) (nameG 4) yesB (callB 1 0 fn__law_take (consM (varM 1) nilM)) [4])) nilM)))) (retS (tupM (consM (varM 1) (consM (opM addP (conM (.int 1)) (callB 1 0 fn__law_take (consM (conM (.int 2)) nilM))) (consM (callB 1 0 fn__law_pick (consM (listM (lstM (consM (conM (.int 0)) (consM (varM 1) nilM)))) nilM)) (consM (tupOM 2) (consM (callB 1 0 fn__law_take (consM (conM (.int 3)) nilM)) nilM))))))))))
theorem ok__law_frame {fa__law_pick : Addr} {fd__law_pick : FuncData} {fa__law_take : Addr} {fd__law_take : FuncData} {fn__law_pick : FnB} {fn__law_take : FnB} {f : Addr} {fd : FuncData} (F : Fun K.K "_law_frame" "_law_frame" s__law_frame f fd) (T : Txt K mg C B fI)
    (D__law_pick : Dfn P w K.K mg base CX0 2 "_law_pick" ["box", "some"] (spB K 1 fn__law_pick) fa__law_pick fd__law_pick)
    (D__law_take : Dfn P w K.K mg base CX0 1 "_law_take" ["box", "many"] (spB K 1 fn__law_take) fa__law_take fd__law_take) :
    FnOk P w K.K mg base CX0 (2 + 1) f fd ["box"] (spB K 0 (denB 5 (den__law_frame fn__law_pick fn__law_take))) := by
  refine F.ok sc__law_frame (fun vs H Q E h => by obtain ⟨_, _, a, bs, bd, ws, ds, d, bd2, rfl, _, _, _, _, _, h2, h3, _⟩ := h; exact congrArg (· + 1) (h2.length.trans h3)) (fun cdv A outer s H vs Q E hr h => ?_)
  refine ⟨_, (pss_cons (ps_set (i := 1) sc__law_frame.nd rfl (by first | exact Or.inl rfl | exact Or.inr rfl) (pe_op (op_addK K.K rfl) pe_int (pe_op op_fdivW (pe_d D__law_take (hr.mono (by omega)) (pa_cons (pv 0) (pa_cons pe_int pa_nil))) pe_int))) (pss_cons (ps_set (i := 2) sc__law_frame.nd rfl (by first | exact Or.inl rfl | exact Or.inr rfl) (pe_lst pa_nil)) (pss_cons (ps_for PassesOwn.never rfl (pi_range1 rfl T.b_range (pa_cons (pe_op (op_addK K.K rfl) pe_int (pe_d D__law_take (hr.mono (by omega)) (pa_cons (pv 0) (pa_cons pe_int pa_nil)))) pa_nil)) (pg_name (i := 3) sc__law_frame.nd rfl (by first | exact Or.inl rfl | exact Or.inr rfl)) (pss_one (ps_expr (pe_bm PySem.F.plainAttrs_list PySem.F.slot_list_append PySem.F.type_list_append mt_append (pv 2) (pa_cons (pe_callTy (call_tupleK K.K rfl) (by rfl) T.b_tuple PyProof.Rows.boot_tuple (pa_cons (pe_lc (own := [("cell", 4)]) rfl sc__law_frame.nd (pi_range1 rfl T.b_range (pa_cons (pe_op op_pow (pv 1) pe_int) pa_nil)) (blkOk_by (N := ["box", "size", "tables", "turn", "cell"]) (sc := defScope s__law_frame) (by decide +kernel)) (fun _ _ _ _ _ => (pg_name (i := 4) sc__law_frame.nd rfl (by first | exact Or.inl rfl | exact Or.inr rfl))) (fun _ _ _ _ _ => pts_nil) (fun _ _ _ _ _ => (pe_d D__law_take (hr.mono (by omega)) (pa_cons (pv 0) (pa_cons (pv 1) pa_nil))))) pa_nil)) pa_nil))))) (pss_one (ps_ret (pe_tup (pa_cons (pv 1) (pa_cons (pe_op (op_addK K.K rfl) pe_int (pe_d D__law_take (hr.mono (by omega)) (pa_cons (pv 0) (pa_cons pe_int pa_nil)))) (pa_cons (pe_d D__law_pick (hr.mono (by omega)) (pa_cons (pv 0) (pa_cons (pe_lst (pa_cons pe_int (pa_cons (pv 1) pa_nil))) pa_nil))) (pa_cons (pe_callTy (call_tupleK K.K rfl) (by rfl) T.b_tuple PyProof.Rows.boot_tuple (pa_cons (pv 2) pa_nil)) (pa_cons (pe_d D__law_take (hr.mono (by omega)) (pa_cons (pv 0) (pa_cons pe_int pa_nil))) pa_nil))))))))))), ?_⟩
  exact body_B (N := ["box", "size", "tables", "turn", "cell"]) (ec := ecOf C 99) (W := fun _ _ _ _ => False) (sd_seq (sd_asg (ed_op opd_add ed_int (ed_op opd_div (ed_callB (ea_cons ed_int ea_nil)) ed_int))) (sd_seq (sd_asgO (eo_lst ea_nil)) (sd_seq (sd_for (id_rng1M (ea_cons (ed_op opd_add ed_int (ed_callB (ea_cons ed_int ea_nil))) ea_nil)) gd_name (sd_app (ed_ca cad_tuple (ea_cons (Eo.ed (eo_lc (id_rng1M (ea_cons (ed_op opd_pow ed_var ed_int) ea_nil)) gd_name (by decide) et_yes (ed_callB (ea_cons ed_var ea_nil)))) ea_nil)))) (sd_ret (ed_tup (ea_cons ed_var (ea_cons (ed_op opd_add ed_int (ed_callB (ea_cons ed_int ea_nil))) (ea_cons (ed_callB (ea_cons (Eo.ed (eo_lst (ea_cons ed_int (ea_cons ed_var ea_nil)))) ea_nil)) (ea_cons ed_tupO (ea_cons (ed_callB (ea_cons ed_int ea_nil)) ea_nil)))))))))) h
abbrev s__law_rows : Stmt := top 35
theorem sc__law_rows : FnScope ["box", "frame", "many", "deep", "rows", "turn", "names", "place", "kind"] ["box", "frame", "many", "deep"] (defScope s__law_rows) := ⟨rfl, rfl, rfl, by decide +kernel, rfl, by decide +kernel, by decide +kernel⟩
def den__law_rows (fn__law_take : FnB) (fn__law_rows : FnB) : DS := (seqS (asgO 4 (lstM nilM)) (seqS (forS (rng1M (consM (varM 2) nilM)) (nameG 5) (seqS (asgS 6 (listM (lcM (rng1M (consM (conM (.int 3)) nilM)) (nameG 7) yesB (callB 1 0 fn__law_take (consM (opM ixP (varM 1) (conM (.int 1))) nilM)) [7]))) (seqS (asgS 8 (callB 1 0 fn__law_take (consM (ifM (boolM (opM gtP (varM 3) (conM (.int 0)))) (conM (.int 10)) (conM (.int 7))) nilM))) (ifS (orB (boolM (opM ltP (varM 8) (conM (.int 3)))) (andB (boolM (opM ltP (varM 8) (conM (.int 5)))) (boolM (opM eqS (opM ixP (varM 1) (conM (.int 2))) (conM (.int 0)))))) (appS 4 (opM addP (tupM (consM (conM (.str "op")) (consM (callB 1 0 fn__law_take (consM (caM lenP (consM (opM ixP (varM 1) (conM (.int 3))) nilM)) nilM)) nilM))) (caM tupleP (consM (varM 6) nilM)))) (ifS (boolM (opM ltP (varM 8) (conM (.int 5)))) (appS 4 (opM addP (tupM (consM (opM ixP (listM (lstM (consM (conM (.str "load")) (consM (conM (.str "store")) nilM)))) (opM subP (varM 8) (conM (.int 3)))) nilM)) (caM tupleP (consM (slM (varM 6) noM (partM (conM (.int 2)))) nilM)))) (ifS (boolM (opM ltP (varM 8) (conM (.int 7)))) (appS 4 (ifM (boolM (opM eqS (varM 8) (conM (.int 5)))) (tupM (consM (conM (.str "fence")) nilM)) (tupM (consM (conM (.str "op")) (consM (conM (.int 0)) (consM (opM ixP (varM 6) (conM (.int 0))) (consM (opM ixP (varM 6) (conM (.int 1))) (consM (opM ixP (varM 6) (conM (.int 1))) nilM)))))))) (ifS (boolM (opM ltP (varM 8) (conM (.int 9)))) (appS 4 (tupM (consM (conM (.str "fork")) (consM (opM ixP (varM 6) (conM (.int 0))) (consM (callB 3 0 fn__law_rows (consM (varM 1) (consM (callB 1 0 fn__law_take (consM (conM (.int 3)) nilM)) (consM (opM subP (varM 3) (conM (.int 1))) nilM)))) (consM (callB 3 0 fn__law_rows (consM (varM 1) (consM (callB 1 0 fn__law_take (consM (conM (.int 3)) nilM)) (consM (opM subP (varM 3) (conM (.int 1))) nilM)))) nilM)))))) (appS 4 (tupM (consM (conM (.str "loop")) (consM (callB 1 0 fn__law_take (consM (conM (.int 3)) nilM)) (consM (callB 3 0 fn__law_rows (consM (varM 1) (consM (callB 1 0 fn__law_take (consM (conM (.int 3)) nilM)) (consM (opM subP (varM 3) (conM (.int 1))) nilM)))) nilM)))))))))))) (retS (tupOM 4))))
theorem ok__law_rows {fa__law_take : Addr} {fd__law_take : FuncData} {fa__law_rows : Addr} {fd__law_rows : FuncData} {l__law_rows : Nat} {fn__law_take : FnB} {fn__law_rows : FnB} {f : Addr} {fd : FuncData} (F : Fun K.K "_law_rows" "_law_rows" s__law_rows f fd) (T : Txt K mg C B fI)
    (D__law_take : Dfn P w K.K mg base CX0 1 "_law_take" ["box", "many"] (spB K 1 fn__law_take) fa__law_take fd__law_take)
    (D__law_rows : Dfn P w K.K mg base CX0 l__law_rows "_law_rows" ["box", "frame", "many", "deep"] (spB K 3 fn__law_rows) fa__law_rows fd__law_rows) :
    FnOk P w K.K mg base CX0 (l__law_rows + 1 + 1) f fd ["box", "frame", "many", "deep"] (spB K 3 (denB 9 (den__law_rows fn__law_take fn__law_rows))) := by
  refine F.ok sc__law_rows (fun vs H Q E h => by obtain ⟨_, _, a, bs, bd, ws, ds, d, bd2, rfl, _, _, _, _, _, h2, h3, _⟩ := h; exact congrArg (· + 1) (h2.length.trans h3)) (fun cdv A outer s H vs Q E hr h => ?_)
  refine ⟨_, (pss_cons (ps_set (i := 4) sc__law_rows.nd rfl (by first | exact Or.inl rfl | exact Or.inr rfl) (pe_lst pa_nil)) (pss_cons (ps_for PassesOwn.never rfl (pi_range1 rfl T.b_range (pa_cons (pv 2) pa_nil)) (pg_name (i := 5) sc__law_rows.nd rfl (by first | exact Or.inl rfl | exact Or.inr rfl)) (pss_cons (ps_setLc (i := 6) (own := [("place", 7)]) rfl sc__law_rows.nd rfl rfl (sw_true rfl rfl rfl (by decide +kernel)) (pi_range1 rfl T.b_range (pa_cons pe_int pa_nil)) (blkOk_by (N := ["box", "frame", "many", "deep", "rows", "turn", "names", "place", "kind"]) (sc := defScope s__law_rows) (by decide +kernel)) (fun _ _ _ _ _ => (pg_name (i := 7) sc__law_rows.nd rfl (by first | exact Or.inl rfl | exact Or.inr rfl))) (fun _ _ _ _ _ => pts_nil) (fun _ _ _ _ _ => (pe_d D__law_take (hr.mono (by omega)) (pa_cons (pv 0) (pa_cons (pe_ix (ix_K K.K rfl) (pv 1) pe_int (fun _ _ => rfl)) pa_nil))))) (pss_cons (ps_set (i := 8) sc__law_rows.nd rfl (by first | exact Or.inl rfl | exact Or.inr rfl) (pe_d D__law_take (hr.mono (by omega)) (pa_cons (pv 0) (pa_cons (pe_ifExp (pt_cmpR op_gt (pv 3) pe_int (nomark _)) pe_int pe_int) pa_nil)))) (pss_one (ps_if (PW.pt (pw_or (pt_cmpR op_lt (pv 8) pe_int (nomark _)) (pw_or1 (PW.pt (pw_and (pt_cmpR op_lt (pv 8) pe_int (nomark _)) (pw_and1 (pt_cmpR (op_eqK K.K rfl hr.units) (pe_ix (ix_K K.K rfl) (pv 1) pe_int (fun _ _ => rfl)) pe_int (nomark _)))))))) (pss_one (ps_expr (pe_bm PySem.F.plainAttrs_list PySem.F.slot_list_append PySem.F.type_list_append mt_append (pv 4) (pa_cons (pe_op (op_addK K.K rfl) (pe_tup (pa_cons pe_str (pa_cons (pe_d D__law_take (hr.mono (by omega)) (pa_cons (pv 0) (pa_cons (pe_callB (call_lenK K.K rfl) (by rfl) T.b_len PySem.boot_len (pa_cons (pe_ix (ix_K K.K rfl) (pv 1) pe_int (fun _ _ => rfl)) pa_nil)) pa_nil))) pa_nil))) (pe_callTy (call_tupleK K.K rfl) (by rfl) T.b_tuple PyProof.Rows.boot_tuple (pa_cons (pv 6) pa_nil))) pa_nil)))) (pss_one (ps_if (pt_cmpR op_lt (pv 8) pe_int (nomark _)) (pss_one (ps_expr (pe_bm PySem.F.plainAttrs_list PySem.F.slot_list_append PySem.F.type_list_append mt_append (pv 4) (pa_cons (pe_op (op_addK K.K rfl) (pe_tup (pa_cons (pe_ix (ix_K K.K rfl) (pe_lst (pa_cons pe_str (pa_cons pe_str pa_nil))) (pe_op op_sub (pv 8) pe_int) (fun _ _ => rfl)) pa_nil)) (pe_callTy (call_tupleK K.K rfl) (by rfl) T.b_tuple PyProof.Rows.boot_tuple (pa_cons (pe_slice (sl_K K.K rfl) (pv 6) po_none (po_some pe_int)) pa_nil))) pa_nil)))) (pss_one (ps_if (pt_cmpR op_lt (pv 8) pe_int (nomark _)) (pss_one (ps_expr (pe_bm PySem.F.plainAttrs_list PySem.F.slot_list_append PySem.F.type_list_append mt_append (pv 4) (pa_cons (pe_ifExp (pt_cmpR (op_eqK K.K rfl hr.units) (pv 8) pe_int (nomark _)) (pe_tup (pa_cons pe_str pa_nil)) (pe_tup (pa_cons pe_str (pa_cons pe_int (pa_cons (pe_ix (ix_K K.K rfl) (pv 6) pe_int (fun _ _ => rfl)) (pa_cons (pe_ix (ix_K K.K rfl) (pv 6) pe_int (fun _ _ => rfl)) (pa_cons (pe_ix (ix_K K.K rfl) (pv 6) pe_int (fun _ _ => rfl)) pa_nil))))))) pa_nil)))) (pss_one (ps_if (pt_cmpR op_lt (pv 8) pe_int (nomark _)) (pss_one (ps_expr (pe_bm PySem.F.plainAttrs_list PySem.F.slot_list_append PySem.F.type_list_append mt_append (pv 4) (pa_cons (pe_tup (pa_cons pe_str (pa_cons (pe_ix (ix_K K.K rfl) (pv 6) pe_int (fun _ _ => rfl)) (pa_cons (pe_d D__law_rows (hr.mono (by omega)) (pa_cons (pv 0) (pa_cons (pv 1) (pa_cons (pe_d D__law_take (hr.mono (by omega)) (pa_cons (pv 0) (pa_cons pe_int pa_nil))) (pa_cons (pe_op op_sub (pv 3) pe_int) pa_nil))))) (pa_cons (pe_d D__law_rows (hr.mono (by omega)) (pa_cons (pv 0) (pa_cons (pv 1) (pa_cons (pe_d D__law_take (hr.mono (by omega)) (pa_cons (pv 0) (pa_cons pe_int pa_nil))) (pa_cons (pe_op op_sub (pv 3) pe_int) pa_nil))))) pa_nil))))) pa_nil)))) (pss_one (ps_expr (pe_bm PySem.F.plainAttrs_list PySem.F.slot_list_append PySem.F.type_list_append mt_append (pv 4) (pa_cons (pe_tup (pa_cons pe_str (pa_cons (pe_d D__law_take (hr.mono (by omega)) (pa_cons (pv 0) (pa_cons pe_int pa_nil))) (pa_cons (pe_d D__law_rows (hr.mono (by omega)) (pa_cons (pv 0) (pa_cons (pv 1) (pa_cons (pe_d D__law_take (hr.mono (by omega)) (pa_cons (pv 0) (pa_cons pe_int pa_nil))) (pa_cons (pe_op op_sub (pv 3) pe_int) pa_nil))))) pa_nil)))) pa_nil))))))))))))))) (pss_one (ps_ret (pe_callTy (call_tupleK K.K rfl) (by rfl) T.b_tuple PyProof.Rows.boot_tuple (pa_cons (pv 4) pa_nil)))))), ?_⟩
  exact body_B (N := ["box", "frame", "many", "deep", "rows", "turn", "names", "place", "kind"]) (ec := ecOf C 99) (W := fun _ _ _ _ => False) (sd_seq (sd_asgO (eo_lst ea_nil)) (sd_seq (sd_for (id_rng1M (ea_cons ed_var ea_nil)) gd_name (sd_seq (sd_asg (Eo.ed (eo_lc (id_rng1M (ea_cons ed_int ea_nil)) gd_name (by decide) et_yes (ed_callB (ea_cons (ed_op opd_ix ed_var ed_int) ea_nil))))) (sd_seq (sd_asg (ed_callB (ea_cons (ed_if (et_test (ed_op opd_gt ed_var ed_int)) ed_int ed_int) ea_nil))) (sd_if (et_or (et_test (ed_op opd_lt ed_var ed_int)) (et_and (et_test (ed_op opd_lt ed_var ed_int)) (et_test (ed_op opd_eqS (ed_op opd_ix ed_var ed_int) ed_int)))) (sd_app (ed_op opd_add (ed_tup (ea_cons ed_str (ea_cons (ed_callB (ea_cons (ed_ca cad_len (ea_cons (ed_op opd_ix ed_var ed_int) ea_nil)) ea_nil)) ea_nil))) (ed_ca cad_tuple (ea_cons ed_var ea_nil)))) (sd_if (et_test (ed_op opd_lt ed_var ed_int)) (sd_app (ed_op opd_add (ed_tup (ea_cons (ed_op opd_ix (Eo.ed (eo_lst (ea_cons ed_str (ea_cons ed_str ea_nil)))) (ed_op opd_sub ed_var ed_int)) ea_nil)) (ed_ca cad_tuple (ea_cons (ed_sl ed_var eb_no (eb_part ed_int)) ea_nil)))) (sd_if (et_test (ed_op opd_lt ed_var ed_int)) (sd_app (ed_if (et_test (ed_op opd_eqS ed_var ed_int)) (ed_tup (ea_cons ed_str ea_nil)) (ed_tup (ea_cons ed_str (ea_cons ed_int (ea_cons (ed_op opd_ix ed_var ed_int) (ea_cons (ed_op opd_ix ed_var ed_int) (ea_cons (ed_op opd_ix ed_var ed_int) ea_nil)))))))) (sd_if (et_test (ed_op opd_lt ed_var ed_int)) (sd_app (ed_tup (ea_cons ed_str (ea_cons (ed_op opd_ix ed_var ed_int) (ea_cons (ed_callB (ea_cons ed_var (ea_cons (ed_callB (ea_cons ed_int ea_nil)) (ea_cons (ed_op opd_sub ed_var ed_int) ea_nil)))) (ea_cons (ed_callB (ea_cons ed_var (ea_cons (ed_callB (ea_cons ed_int ea_nil)) (ea_cons (ed_op opd_sub ed_var ed_int) ea_nil)))) ea_nil)))))) (sd_app (ed_tup (ea_cons ed_str (ea_cons (ed_callB (ea_cons ed_int ea_nil)) (ea_cons (ed_callB (ea_cons ed_var (ea_cons (ed_callB (ea_cons ed_int ea_nil)) (ea_cons (ed_op opd_sub ed_var ed_int) ea_nil)))) ea_nil)))))))))))) (sd_ret ed_tupO))) h
abbrev s__law_datum : Stmt := top 36
theorem sc__law_datum : FnScope ["box", "frame", "spot"] ["box", "frame"] (defScope s__law_datum) := ⟨rfl, rfl, rfl, by decide +kernel, rfl, by decide +kernel, by decide +kernel⟩
def den__law_datum (fn__law_take : FnB) : DS := (retS (caM tupleP (consM (listM (lcM (rng1M (consM (opM addP (opM ixP (varM 1) (conM (.int 1))) (opM ixP (varM 1) (conM (.int 2)))) nilM)) (nameG 2) yesB (callB 1 0 fn__law_take (consM (opM ixP (varM 1) (conM (.int 0))) nilM)) [2])) nilM)))
theorem ok__law_datum {fa__law_take : Addr} {fd__law_take : FuncData} {fn__law_take : FnB} {f : Addr} {fd : FuncData} (F : Fun K.K "_law_datum" "_law_datum" s__law_datum f fd) (T : Txt K mg C B fI)
    (D__law_take : Dfn P w K.K mg base CX0 1 "_law_take" ["box", "many"] (spB K 1 fn__law_take) fa__law_take fd__law_take) :
    FnOk P w K.K mg base CX0 (1 + 1) f fd ["box", "frame"] (spB K 1 (denB 3 (den__law_datum fn__law_take))) := by
  refine F.ok sc__law_datum (fun vs H Q E h => by obtain ⟨_, _, a, bs, bd, ws, ds, d, bd2, rfl, _, _, _, _, _, h2, h3, _⟩ := h; exact congrArg (· + 1) (h2.length.trans h3)) (fun cdv A outer s H vs Q E hr h => ?_)
  refine ⟨_, (pss_one (ps_ret (pe_callTy (call_tupleK K.K rfl) (by rfl) T.b_tuple PyProof.Rows.boot_tuple (pa_cons (pe_lc (own := [("spot", 2)]) rfl sc__law_datum.nd (pi_range1 rfl T.b_range (pa_cons (pe_op (op_addK K.K rfl) (pe_ix (ix_K K.K rfl) (pv 1) pe_int (fun _ _ => rfl)) (pe_ix (ix_K K.K rfl) (pv 1) pe_int (fun _ _ => rfl))) pa_nil)) (blkOk_by (N := ["box", "frame", "spot"]) (sc := defScope s__law_datum) (by decide +kernel)) (fun _ _ _ _ _ => (pg_name (i := 2) sc__law_datum.nd rfl (by first | exact Or.inl rfl | exact Or.inr rfl))) (fun _ _ _ _ _ => pts_nil) (fun _ _ _ _ _ => (pe_d D__law_take (hr.mono (by omega)) (pa_cons (pv 0) (pa_cons (pe_ix (ix_K K.K rfl) (pv 1) pe_int (fun _ _ => rfl)) pa_nil))))) pa_nil)))), ?_⟩
  exact body_B (N := ["box", "frame", "spot"]) (ec := ecOf C 99) (W := fun _ _ _ _ => False) (sd_ret (ed_ca cad_tuple (ea_cons (Eo.ed (eo_lc (id_rng1M (ea_cons (ed_op opd_add (ed_op opd_ix ed_var ed_int) (ed_op opd_ix ed_var ed_int)) ea_nil)) gd_name (by decide) et_yes (ed_callB (ea_cons (ed_op opd_ix ed_var ed_int) ea_nil)))) ea_nil))) h
abbrev s__law_plain : Stmt := top 37
theorem sc__law_plain : FnScope ["rows", "found", "row", "turn"] ["rows"] (defScope s__law_plain) := ⟨rfl, rfl, rfl, by decide +kernel, rfl, by decide +kernel, by decide +kernel⟩
def den__law_plain (fn__law_plain : FnQ) : DS := (seqS (asgO 1 (lstM nilM)) (seqS (forS (seqI (varM 0)) (nameG 2) (ifS (boolM (opM eqS (opM ixP (varM 2) (conM (.int 0))) (conM (.str "loop")))) (forS (rng1M (consM (opM ixP (varM 2) (conM (.int 1))) nilM)) (nameG 3) (extS 1 (callM 1 fn__law_plain (consM (opM ixP (varM 2) (conM (.int 2))) nilM)))) (appS 1 (ifM (boolM (opM eqS (opM ixP (varM 2) (conM (.int 0))) (conM (.str "fork")))) (tupM (consM (conM (.str "fork")) (consM (opM ixP (varM 2) (conM (.int 1))) (consM (caM tupleP (consM (callM 1 fn__law_plain (consM (opM ixP (varM 2) (conM (.int 2))) nilM)) nilM)) (consM (caM tupleP (consM (callM 1 fn__law_plain (consM (opM ixP (varM 2) (conM (.int 3))) nilM)) nilM)) nilM))))) (varM 2))))) (retS (letM 1))))
theorem ok__law_plain {fa__law_plain : Addr} {fd__law_plain : FuncData} {l__law_plain : Nat} {fn__law_plain : FnQ} {f : Addr} {fd : FuncData} (F : Fun K.K "_law_plain" "_law_plain" s__law_plain f fd) (T : Txt K mg C B fI)
    (D__law_plain : Dfn P w K.K mg base CX0 l__law_plain "_law_plain" ["rows"] (spQ K 1 fn__law_plain) fa__law_plain fd__law_plain) :
    FnOk P w K.K mg base CX0 (l__law_plain + 0 + 1) f fd ["rows"] (spQ K 1 (denQ 4 (den__law_plain fn__law_plain))) := by
  refine F.ok sc__law_plain (fun vs H Q E h => by obtain ⟨_, _, ds, _, _, _, h2, h3, _⟩ := h; exact h2.length.trans h3) (fun cdv A outer s H vs Q E hr h => ?_)
  refine ⟨_, (pss_cons (ps_set (i := 1) sc__law_plain.nd rfl (by first | exact Or.inl rfl | exact Or.inr rfl) (pe_lst pa_nil)) (pss_cons (ps_for PassesOwn.never rfl (pi_seqK K.K rfl (pv 0)) (pg_name (i := 2) sc__law_plain.nd rfl (by first | exact Or.inl rfl | exact Or.inr rfl)) (pss_one (ps_if (pt_cmpR (op_eqK K.K rfl hr.units) (pe_ix (ix_K K.K rfl) (pv 2) pe_int (fun _ _ => rfl)) pe_str (nomark _)) (pss_one (ps_for PassesOwn.never rfl (pi_range1 rfl T.b_range (pa_cons (pe_ix (ix_K K.K rfl) (pv 2) pe_int (fun _ _ => rfl)) pa_nil)) (pg_name (i := 3) sc__law_plain.nd rfl (by first | exact Or.inl rfl | exact Or.inr rfl)) (pss_one (ps_expr (pe_bm PySem.F.plainAttrs_list PySem.F.slot_list_extend PySem.F.type_list_extend (mt_extendS K.K rfl) (pv 1) (pa_cons (pe_d D__law_plain (hr.mono (by omega)) (pa_cons (pe_ix (ix_K K.K rfl) (pv 2) pe_int (fun _ _ => rfl)) pa_nil)) pa_nil)))))) (pss_one (ps_expr (pe_bm PySem.F.plainAttrs_list PySem.F.slot_list_append PySem.F.type_list_append mt_append (pv 1) (pa_cons (pe_ifExp (pt_cmpR (op_eqK K.K rfl hr.units) (pe_ix (ix_K K.K rfl) (pv 2) pe_int (fun _ _ => rfl)) pe_str (nomark _)) (pe_tup (pa_cons pe_str (pa_cons (pe_ix (ix_K K.K rfl) (pv 2) pe_int (fun _ _ => rfl)) (pa_cons (pe_callTy (call_tupleK K.K rfl) (by rfl) T.b_tuple PyProof.Rows.boot_tuple (pa_cons (pe_d D__law_plain (hr.mono (by omega)) (pa_cons (pe_ix (ix_K K.K rfl) (pv 2) pe_int (fun _ _ => rfl)) pa_nil)) pa_nil)) (pa_cons (pe_callTy (call_tupleK K.K rfl) (by rfl) T.b_tuple PyProof.Rows.boot_tuple (pa_cons (pe_d D__law_plain (hr.mono (by omega)) (pa_cons (pe_ix (ix_K K.K rfl) (pv 2) pe_int (fun _ _ => rfl)) pa_nil)) pa_nil)) pa_nil))))) (pv 2)) pa_nil))))))) (pss_one (ps_ret (pv 1))))), ?_⟩
  exact body_Q (N := ["rows", "found", "row", "turn"]) (ec := ecOf C 99) (W := fun _ _ _ _ => False) (sd_seq (sd_asgO (eo_lst ea_nil)) (sd_seq (sd_for (id_seq ed_var) gd_name (sd_if (et_test (ed_op opd_eqS (ed_op opd_ix ed_var ed_int) ed_str)) (sd_for (id_rng1M (ea_cons (ed_op opd_ix ed_var ed_int) ea_nil)) gd_name (sd_ext (ed_call (ea_cons (ed_op opd_ix ed_var ed_int) ea_nil)))) (sd_app (ed_if (et_test (ed_op opd_eqS (ed_op opd_ix ed_var ed_int) ed_str)) (ed_tup (ea_cons ed_str (ea_cons (ed_op opd_ix ed_var ed_int) (ea_cons (ed_ca cad_tuple (ea_cons (ed_call (ea_cons (ed_op opd_ix ed_var ed_int) ea_nil)) ea_nil)) (ea_cons (ed_ca cad_tuple (ea_cons (ed_call (ea_cons (ed_op opd_ix ed_var ed_int) ea_nil)) ea_nil)) ea_nil))))) ed_var)))) (sd_ret ed_let))) h
abbrev s__law_is_below : Stmt := top 38
theorem sc__law_is_below : FnScope ["value", "limit"] ["value", "limit"] (defScope s__law_is_below) := ⟨rfl, rfl, rfl, by decide +kernel, rfl, by decide +kernel, by decide +kernel⟩
def den__law_is_below : DS := (retS (andV (isi1M "int" (varM 0)) (andV (notV (isi1M "bool" (varM 0))) (chainM leP ltP (conM (.int 0)) (varM 0) (varM 1)))))
theorem ok__law_is_below {f : Addr} {fd : FuncData} (F : Fun K.K "_law_is_below" "_law_is_below" s__law_is_below f fd) (T : Txt K mg C B fI) :
    FnOk P w K.K mg base CX0 (0 + 1) f fd ["value", "limit"] (spQ K 2 (denQ 2 (den__law_is_below))) := by
  refine F.ok sc__law_is_below (fun vs H Q E h => by obtain ⟨_, _, ds, _, _, _, h2, h3, _⟩ := h; exact h2.length.trans h3) (fun cdv A outer s H vs Q E hr h => ?_)
  refine ⟨_, (pss_one (ps_ret (pe_and (pe_callB (call_isi1K K.K rfl) (by rfl) T.b_isinstance PyProof.Rows.boot_isinstance (pa_cons (pv 0) (pa_cons (pe_bltn (v := .ty "int") rfl T.b_int PyProof.Rows.boot_int rfl) pa_nil))) (pe_and (pe_not (pe_callB (call_isi1K K.K rfl) (by rfl) T.b_isinstance PyProof.Rows.boot_isinstance (pa_cons (pv 0) (pa_cons (pe_bltn (v := .ty "bool") rfl T.b_bool PyProof.Rows.boot_bool rfl) pa_nil)))) (pe_one (pe_chain op_le op_lt pe_int (pv 0) (pv 1))))))), ?_⟩
  exact body_Q (N := ["value", "limit"]) (ec := ecOf C 99) (W := fun _ _ _ _ => False) (sd_ret (ed_and (ed_isi1 ed_var) (ed_and (ed_not (ed_isi1 ed_var)) (ed_chain opd_le opd_lt ed_int ed_var ed_var)))) h
abbrev s__law_are_below : Stmt := top 39
theorem sc__law_are_below : FnScope ["value", "many", "limit", "one"] ["value", "many", "limit"] (defScope s__law_are_below) := ⟨rfl, rfl, rfl, by decide +kernel, rfl, by decide +kernel, by decide +kernel⟩
def den__law_are_below (fn__law_is_below : FnQ) : DS := (retS (andV (isi1M "tuple" (varM 0)) (andV (opM eqS (caM lenP (consM (varM 0) nilM)) (varM 1)) (opM eqS (listM (lcM (seqI (varM 0)) (nameG 3) (notB (truB (callM 2 fn__law_is_below (consM (varM 3) (consM (varM 2) nilM))))) (varM 3) [3])) (listM (lstM nilM))))))
theorem ok__law_are_below {fa__law_is_below : Addr} {fd__law_is_below : FuncData} {fn__law_is_below : FnQ} {f : Addr} {fd : FuncData} (F : Fun K.K "_law_are_below" "_law_are_below" s__law_are_below f fd) (T : Txt K mg C B fI)
    (D__law_is_below : Dfn P w K.K mg base CX0 1 "_law_is_below" ["value", "limit"] (spQ K 2 fn__law_is_below) fa__law_is_below fd__law_is_below) :
    FnOk P w K.K mg base CX0 (1 + 1) f fd ["value", "many", "limit"] (spQ K 3 (denQ 4 (den__law_are_below fn__law_is_below))) := by
  refine F.ok sc__law_are_below (fun vs H Q E h => by obtain ⟨_, _, ds, _, _, _, h2, h3, _⟩ := h; exact h2.length.trans h3) (fun cdv A outer s H vs Q E hr h => ?_)
  refine ⟨_, (pss_one (ps_ret (pe_and (pe_callB (call_isi1K K.K rfl) (by rfl) T.b_isinstance PyProof.Rows.boot_isinstance (pa_cons (pv 0) (pa_cons (pe_bltn (v := .ty "tuple") rfl T.b_tuple PyProof.Rows.boot_tuple rfl) pa_nil))) (pe_and (pe_cmpR (op_eqK K.K rfl hr.units) (pe_callB (call_lenK K.K rfl) (by rfl) T.b_len PySem.boot_len (pa_cons (pv 0) pa_nil)) (pv 1) (nomark _)) (pe_one (pe_cmpR (op_eqK K.K rfl hr.units) (pe_lc (own := [("one", 3)]) rfl sc__law_are_below.nd (pi_seqK K.K rfl (pv 0)) (blkOk_by (N := ["value", "many", "limit", "one"]) (sc := defScope s__law_are_below) (by decide +kernel)) (fun _ _ _ _ _ => (pg_name (i := 3) sc__law_are_below.nd rfl (by first | exact Or.inl rfl | exact Or.inr rfl))) (fun _ _ _ _ _ => (pts_one (pt_not (pt_truK K.K rfl (pe_d D__law_is_below (hr.mono (by omega)) (pa_cons (pv 3) (pa_cons (pv 2) pa_nil))))))) (fun _ _ _ _ _ => (pv 3))) (pe_lst pa_nil) (nomark _))))))), ?_⟩
  exact body_Q (N := ["value", "many", "limit", "one"]) (ec := ecOf C 99) (W := fun _ _ _ _ => False) (sd_ret (ed_and (ed_isi1 ed_var) (ed_and (ed_op opd_eqS (ed_ca cad_len (ea_cons ed_var ea_nil)) ed_var) (ed_op opd_eqS (Eo.ed (eo_lc (id_seq ed_var) gd_name (by decide) (et_not (et_tru (ed_call (ea_cons ed_var (ea_cons ed_var ea_nil))))) ed_var)) (Eo.ed (eo_lst ea_nil)))))) h
end
end K06

namespace K06
open PySem L2 Evl Pd
section
variable {P : Program} {w : World} {K : PKt} {mg : Str → Option Value} {base : Heap} {C fI : Nat → Addr} {B : Addr}
abbrev s__law_frame_due : Stmt := top 40
theorem sc__law_frame_due : FnScope ["value", "one"] ["value"] (defScope s__law_frame_due) := ⟨rfl, rfl, rfl, by decide +kernel, rfl, by decide +kernel, by decide +kernel⟩
def den__law_frame_due (fn__law_is_below : FnQ) (fn__law_are_below : FnQ) : DS := (seqS (ifS (orB (notB (truB (isi1M "tuple" (varM 0)))) (boolM (opM neS (caM lenP (consM (varM 0) nilM)) (conM (.int 5))))) (retS (unM negP (conM (.int 1)))) nextS) (seqS (ifS (orB (notB (truB (callM 2 fn__law_is_below (consM (opM ixP (varM 0) (conM (.int 0))) (consM (conM (.int 4)) nilM))))) (boolM (opM ltP (opM ixP (varM 0) (conM (.int 0))) (conM (.int 2))))) (retS (conM (.int 0))) nextS) (seqS (ifS (orB (notB (truB (callM 2 fn__law_is_below (consM (opM ixP (varM 0) (conM (.int 1))) (consM (conM (.int 5)) nilM))))) (boolM (opM eqS (opM ixP (varM 0) (conM (.int 1))) (conM (.int 0))))) (retS (conM (.int 1))) nextS) (seqS (ifS (orB (notB (truB (callM 2 fn__law_is_below (consM (opM ixP (varM 0) (conM (.int 2))) (consM (conM (.int 4)) nilM))))) (boolM (opM notInP (opM ixP (varM 0) (conM (.int 2))) (listM (lstM (consM (conM (.int 0)) (consM (opM ixP (varM 0) (conM (.int 0))) nilM))))))) (retS (conM (.int 2))) nextS) (seqS (ifS (orB (notB (truB (isi1M "tuple" (opM ixP (varM 0) (conM (.int 3)))))) (orB (boolM (opM gtP (caM lenP (consM (opM ixP (varM 0) (conM (.int 3))) nilM)) (conM (.int 4)))) (boolM (opM neS (listM (lcM (seqI (opM ixP (varM 0) (conM (.int 3)))) (nameG 1) (notB (truB (callM 3 fn__law_are_below (consM (varM 1) (consM (opM powP (opM ixP (varM 0) (conM (.int 0))) (conM (.int 2))) (consM (opM ixP (varM 0) (conM (.int 0))) nilM)))))) (varM 1) [1])) (listM (lstM nilM)))))) (retS (conM (.int 3))) nextS) (retS (ifM (truB (callM 2 fn__law_is_below (consM (opM ixP (varM 0) (conM (.int 4))) (consM (conM (.int 4)) nilM)))) (conM .none) (conM (.int 4)))))))))
theorem ok__law_frame_due {fa__law_is_below : Addr} {fd__law_is_below : FuncData} {fa__law_are_below : Addr} {fd__law_are_below : FuncData} {fn__law_is_below : FnQ} {fn__law_are_below : FnQ} {f : Addr} {fd : FuncData} (F : Fun K.K "_law_frame_due" "_law_frame_due" s__law_frame_due f fd) (T : Txt K mg C B fI)
    (D__law_is_below : Dfn P w K.K mg base CX0 1 "_law_is_below" ["value", "limit"] (spQ K 2 fn__law_is_below) fa__law_is_below fd__law_is_below)
    (D__law_are_below : Dfn P w K.K mg base CX0 2 "_law_are_below" ["value", "many", "limit"] (spQ K 3 fn__law_are_below) fa__law_are_below fd__law_are_below) :
    FnOk P w K.K mg base CX0 (2 + 1) f fd ["value"] (spQ K 1 (denQ 2 (den__law_frame_due fn__law_is_below fn__law_are_below))) := by
  refine F.ok sc__law_frame_due (fun vs H Q E h => by obtain ⟨_, _, ds, _, _, _, h2, h3, _⟩ := h; exact h2.length.trans h3) (fun cdv A outer s H vs Q E hr h => ?_)
  refine ⟨_, (pss_cons (ps_if (PW.pt (pw_or (pt_not (pt_truK K.K rfl (pe_callB (call_isi1K K.K rfl) (by rfl) T.b_isinstance PyProof.Rows.boot_isinstance (pa_cons (pv 0) (pa_cons (pe_bltn (v := .ty "tuple") rfl T.b_tuple PyProof.Rows.boot_tuple rfl) pa_nil))))) (pw_or1 (pt_cmpR (op_neK K.K rfl hr.units) (pe_callB (call_lenK K.K rfl) (by rfl) T.b_len PySem.boot_len (pa_cons (pv 0) pa_nil)) pe_int (nomark _))))) (pss_one (ps_ret (pe_un un_neg pe_int))) pss_nil) (pss_cons (ps_if (PW.pt (pw_or (pt_not (pt_truK K.K rfl (pe_d D__law_is_below (hr.mono (by omega)) (pa_cons (pe_ix (ix_K K.K rfl) (pv 0) pe_int (fun _ _ => rfl)) (pa_cons pe_int pa_nil))))) (pw_or1 (pt_cmpR op_lt (pe_ix (ix_K K.K rfl) (pv 0) pe_int (fun _ _ => rfl)) pe_int (nomark _))))) (pss_one (ps_ret pe_int)) pss_nil) (pss_cons (ps_if (PW.pt (pw_or (pt_not (pt_truK K.K rfl (pe_d D__law_is_below (hr.mono (by omega)) (pa_cons (pe_ix (ix_K K.K rfl) (pv 0) pe_int (fun _ _ => rfl)) (pa_cons pe_int pa_nil))))) (pw_or1 (pt_cmpR (op_eqK K.K rfl hr.units) (pe_ix (ix_K K.K rfl) (pv 0) pe_int (fun _ _ => rfl)) pe_int (nomark _))))) (pss_one (ps_ret pe_int)) pss_nil) (pss_cons (ps_if (PW.pt (pw_or (pt_not (pt_truK K.K rfl (pe_d D__law_is_below (hr.mono (by omega)) (pa_cons (pe_ix (ix_K K.K rfl) (pv 0) pe_int (fun _ _ => rfl)) (pa_cons pe_int pa_nil))))) (pw_or1 (pt_cmpR (op_notInK K.K rfl (units65 hr)) (pe_ix (ix_K K.K rfl) (pv 0) pe_int (fun _ _ => rfl)) (pe_lst (pa_cons pe_int (pa_cons (pe_ix (ix_K K.K rfl) (pv 0) pe_int (fun _ _ => rfl)) pa_nil))) (by rfl))))) (pss_one (ps_ret pe_int)) pss_nil) (pss_cons (ps_if (PW.pt (pw_or (pt_not (pt_truK K.K rfl (pe_callB (call_isi1K K.K rfl) (by rfl) T.b_isinstance PyProof.Rows.boot_isinstance (pa_cons (pe_ix (ix_K K.K rfl) (pv 0) pe_int (fun _ _ => rfl)) (pa_cons (pe_bltn (v := .ty "tuple") rfl T.b_tuple PyProof.Rows.boot_tuple rfl) pa_nil))))) (pw_or (pt_cmpR op_gt (pe_callB (call_lenK K.K rfl) (by rfl) T.b_len PySem.boot_len (pa_cons (pe_ix (ix_K K.K rfl) (pv 0) pe_int (fun _ _ => rfl)) pa_nil)) pe_int (nomark _)) (pw_or1 (pt_cmpR (op_neK K.K rfl hr.units) (pe_lc (own := [("one", 1)]) rfl sc__law_frame_due.nd (pi_seqK K.K rfl (pe_ix (ix_K K.K rfl) (pv 0) pe_int (fun _ _ => rfl))) (blkOk_by (N := ["value", "one"]) (sc := defScope s__law_frame_due) (by decide +kernel)) (fun _ _ _ _ _ => (pg_name (i := 1) sc__law_frame_due.nd rfl (by first | exact Or.inl rfl | exact Or.inr rfl))) (fun _ _ _ _ _ => (pts_one (pt_not (pt_truK K.K rfl (pe_d D__law_are_below (hr.mono (by omega)) (pa_cons (pv 1) (pa_cons (pe_op op_pow (pe_ix (ix_K K.K rfl) (pv 0) pe_int (fun _ _ => rfl)) pe_int) (pa_cons (pe_ix (ix_K K.K rfl) (pv 0) pe_int (fun _ _ => rfl)) pa_nil)))))))) (fun _ _ _ _ _ => (pv 1))) (pe_lst pa_nil) (nomark _)))))) (pss_one (ps_ret pe_int)) pss_nil) (pss_one (ps_ret (pe_ifExp (pt_truK K.K rfl (pe_d D__law_is_below (hr.mono (by omega)) (pa_cons (pe_ix (ix_K K.K rfl) (pv 0) pe_int (fun _ _ => rfl)) (pa_cons pe_int pa_nil)))) pe_non pe_int)))))))), ?_⟩
  exact body_Q (N := ["value", "one"]) (ec := ecOf C 99) (W := fun _ _ _ _ => False) (sd_seq (sd_if (et_or (et_not (et_tru (ed_isi1 ed_var))) (et_test (ed_op opd_neS (ed_ca cad_len (ea_cons ed_var ea_nil)) ed_int))) (sd_ret (ed_un und_neg ed_int)) sd_next) (sd_seq (sd_if (et_or (et_not (et_tru (ed_call (ea_cons (ed_op opd_ix ed_var ed_int) (ea_cons ed_int ea_nil))))) (et_test (ed_op opd_lt (ed_op opd_ix ed_var ed_int) ed_int))) (sd_ret ed_int) sd_next) (sd_seq (sd_if (et_or (et_not (et_tru (ed_call (ea_cons (ed_op opd_ix ed_var ed_int) (ea_cons ed_int ea_nil))))) (et_test (ed_op opd_eqS (ed_op opd_ix ed_var ed_int) ed_int))) (sd_ret ed_int) sd_next) (sd_seq (sd_if (et_or (et_not (et_tru (ed_call (ea_cons (ed_op opd_ix ed_var ed_int) (ea_cons ed_int ea_nil))))) (et_test (ed_op opd_notIn (ed_op opd_ix ed_var ed_int) (Eo.ed (eo_lst (ea_cons ed_int (ea_cons (ed_op opd_ix ed_var ed_int) ea_nil))))))) (sd_ret ed_int) sd_next) (sd_seq (sd_if (et_or (et_not (et_tru (ed_isi1 (ed_op opd_ix ed_var ed_int)))) (et_or (et_test (ed_op opd_gt (ed_ca cad_len (ea_cons (ed_op opd_ix ed_var ed_int) ea_nil)) ed_int)) (et_test (ed_op opd_neS (Eo.ed (eo_lc (id_seq (ed_op opd_ix ed_var ed_int)) gd_name (by decide) (et_not (et_tru (ed_call (ea_cons ed_var (ea_cons (ed_op opd_pow (ed_op opd_ix ed_var ed_int) ed_int) (ea_cons (ed_op opd_ix ed_var ed_int) ea_nil)))))) ed_var)) (Eo.ed (eo_lst ea_nil)))))) (sd_ret ed_int) sd_next) (sd_ret (ed_if (et_tru (ed_call (ea_cons (ed_op opd_ix ed_var ed_int) (ea_cons ed_int ea_nil)))) ed_non ed_int))))))) h
abbrev s__law_is_row : Stmt := top 41
theorem sc__law_is_row : FnScope ["frame", "row"] ["frame", "row"] (defScope s__law_is_row) := ⟨rfl, rfl, rfl, by decide +kernel, rfl, by decide +kernel, by decide +kernel⟩
def den__law_is_row (fn__law_is_below : FnQ) (fn__law_are_below : FnQ) (fn__law_due : FnQ) : DS := (seqS (ifS (orB (notB (truB (isi1M "tuple" (varM 1)))) (orB (boolM (opM eqS (varM 1) (tupM nilM))) (boolM (opM notInP (opM ixP (varM 1) (conM (.int 0))) (listM (lstM (consM (conM (.str "op")) (consM (conM (.str "load")) (consM (conM (.str "store")) (consM (conM (.str "fence")) (consM (conM (.str "fork")) (consM (conM (.str "loop")) nilM)))))))))))) (retS (conM (.bool false))) nextS) (seqS (ifS (boolM (opM neS (caM lenP (consM (varM 1) nilM)) (opM ixP (listM (lstM (consM (conM (.int 5)) (consM (conM (.int 3)) (consM (conM (.int 3)) (consM (conM (.int 1)) (consM (conM (.int 4)) (consM (conM (.int 3)) nilM)))))))) (blM indexP (listM (lstM (consM (conM (.str "op")) (consM (conM (.str "load")) (consM (conM (.str "store")) (consM (conM (.str "fence")) (consM (conM (.str "fork")) (consM (conM (.str "loop")) nilM)))))))) (consM (opM ixP (varM 1) (conM (.int 0))) nilM))))) (retS (conM (.bool false))) nextS) (seqS (ifS (boolM (opM eqS (opM ixP (varM 1) (conM (.int 0))) (conM (.str "op")))) (retS (andV (callM 2 fn__law_is_below (consM (opM ixP (varM 1) (conM (.int 1))) (consM (caM lenP (consM (opM ixP (varM 0) (conM (.int 3))) nilM)) nilM))) (callM 3 fn__law_are_below (consM (slM (varM 1) (partM (conM (.int 2))) noM) (consM (conM (.int 3)) (consM (opM ixP (varM 0) (conM (.int 1))) nilM)))))) nextS) (seqS (ifS (boolM (opM inP (opM ixP (varM 1) (conM (.int 0))) (listM (lstM (consM (conM (.str "load")) (consM (conM (.str "store")) nilM)))))) (retS (andV (opM gtP (opM ixP (varM 0) (conM (.int 2))) (conM (.int 0))) (callM 3 fn__law_are_below (consM (slM (varM 1) (partM (conM (.int 1))) noM) (consM (conM (.int 2)) (consM (opM ixP (varM 0) (conM (.int 1))) nilM)))))) nextS) (seqS (ifS (boolM (opM eqS (opM ixP (varM 1) (conM (.int 0))) (conM (.str "fork")))) (retS (andV (callM 2 fn__law_is_below (consM (opM ixP (varM 1) (conM (.int 1))) (consM (opM ixP (varM 0) (conM (.int 1))) nilM))) (andV (opM isP (callM 2 fn__law_due (consM (varM 0) (consM (opM ixP (varM 1) (conM (.int 2))) nilM))) (conM .none)) (opM isP (callM 2 fn__law_due (consM (varM 0) (consM (opM ixP (varM 1) (conM (.int 3))) nilM))) (conM .none))))) nextS) (retS (orV (opM eqS (opM ixP (varM 1) (conM (.int 0))) (conM (.str "fence"))) (andV (callM 2 fn__law_is_below (consM (opM ixP (varM 1) (conM (.int 1))) (consM (conM (.int 5)) nilM))) (opM isP (callM 2 fn__law_due (consM (varM 0) (consM (opM ixP (varM 1) (conM (.int 2))) nilM))) (conM .none))))))))))
theorem ok__law_is_row {fa__law_is_below : Addr} {fd__law_is_below : FuncData} {fa__law_are_below : Addr} {fd__law_are_below : FuncData} {fa__law_due : Addr} {fd__law_due : FuncData} {l__law_due : Nat} {fn__law_is_below : FnQ} {fn__law_are_below : FnQ} {fn__law_due : FnQ} {f : Addr} {fd : FuncData} (F : Fun K.K "_law_is_row" "_law_is_row" s__law_is_row f fd) (T : Txt K mg C B fI)
    (D__law_is_below : Dfn P w K.K mg base CX0 1 "_law_is_below" ["value", "limit"] (spQ K 2 fn__law_is_below) fa__law_is_below fd__law_is_below)
    (D__law_are_below : Dfn P w K.K mg base CX0 2 "_law_are_below" ["value", "many", "limit"] (spQ K 3 fn__law_are_below) fa__law_are_below fd__law_are_below)
    (D__law_due : Dfn P w K.K mg base CX0 l__law_due "_law_due" ["frame", "value"] (spQ K 2 fn__law_due) fa__law_due fd__law_due) :
    FnOk P w K.K mg base CX0 (l__law_due + 2 + 1) f fd ["frame", "row"] (spQ K 2 (denQ 2 (den__law_is_row fn__law_is_below fn__law_are_below fn__law_due))) := by
  refine F.ok sc__law_is_row (fun vs H Q E h => by obtain ⟨_, _, ds, _, _, _, h2, h3, _⟩ := h; exact h2.length.trans h3) (fun cdv A outer s H vs Q E hr h => ?_)
  refine ⟨_, (pss_cons (ps_if (PW.pt (pw_or (pt_not (pt_truK K.K rfl (pe_callB (call_isi1K K.K rfl) (by rfl) T.b_isinstance PyProof.Rows.boot_isinstance (pa_cons (pv 1) (pa_cons (pe_bltn (v := .ty "tuple") rfl T.b_tuple PyProof.Rows.boot_tuple rfl) pa_nil))))) (pw_or (pt_cmpR (op_eqK K.K rfl hr.units) (pv 1) (pe_tup pa_nil) (nomark _)) (pw_or1 (pt_cmpR (op_notInK K.K rfl (units65 hr)) (pe_ix (ix_K K.K rfl) (pv 1) pe_int (fun _ _ => rfl)) (pe_lst (pa_cons pe_str (pa_cons pe_str (pa_cons pe_str (pa_cons pe_str (pa_cons pe_str (pa_cons pe_str pa_nil))))))) (by rfl)))))) (pss_one (ps_ret pe_bl)) pss_nil) (pss_cons (ps_if (pt_cmpR (op_neK K.K rfl hr.units) (pe_callB (call_lenK K.K rfl) (by rfl) T.b_len PySem.boot_len (pa_cons (pv 1) pa_nil)) (pe_ix (ix_K K.K rfl) (pe_lst (pa_cons pe_int (pa_cons pe_int (pa_cons pe_int (pa_cons pe_int (pa_cons pe_int (pa_cons pe_int pa_nil))))))) (pe_bm PySem.F.plainAttrs_list PySem.F.slot_list_index PySem.F.type_list_index (mt_indexK K.K rfl (units65 hr)) (pe_lst (pa_cons pe_str (pa_cons pe_str (pa_cons pe_str (pa_cons pe_str (pa_cons pe_str (pa_cons pe_str pa_nil))))))) (pa_cons (pe_ix (ix_K K.K rfl) (pv 1) pe_int (fun _ _ => rfl)) pa_nil)) (fun _ _ => rfl)) (nomark _)) (pss_one (ps_ret pe_bl)) pss_nil) (pss_cons (ps_if (pt_cmpR (op_eqK K.K rfl hr.units) (pe_ix (ix_K K.K rfl) (pv 1) pe_int (fun _ _ => rfl)) pe_str (nomark _)) (pss_one (ps_ret (pe_and (pe_d D__law_is_below (hr.mono (by omega)) (pa_cons (pe_ix (ix_K K.K rfl) (pv 1) pe_int (fun _ _ => rfl)) (pa_cons (pe_callB (call_lenK K.K rfl) (by rfl) T.b_len PySem.boot_len (pa_cons (pe_ix (ix_K K.K rfl) (pv 0) pe_int (fun _ _ => rfl)) pa_nil)) pa_nil))) (pe_one (pe_d D__law_are_below (hr.mono (by omega)) (pa_cons (pe_slice (sl_K K.K rfl) (pv 1) (po_some pe_int) po_none) (pa_cons pe_int (pa_cons (pe_ix (ix_K K.K rfl) (pv 0) pe_int (fun _ _ => rfl)) pa_nil)))))))) pss_nil) (pss_cons (ps_if (pt_cmpR (op_inK K.K rfl (units65 hr)) (pe_ix (ix_K K.K rfl) (pv 1) pe_int (fun _ _ => rfl)) (pe_lst (pa_cons pe_str (pa_cons pe_str pa_nil))) (by rfl)) (pss_one (ps_ret (pe_and (pe_cmpR op_gt (pe_ix (ix_K K.K rfl) (pv 0) pe_int (fun _ _ => rfl)) pe_int (nomark _)) (pe_one (pe_d D__law_are_below (hr.mono (by omega)) (pa_cons (pe_slice (sl_K K.K rfl) (pv 1) (po_some pe_int) po_none) (pa_cons pe_int (pa_cons (pe_ix (ix_K K.K rfl) (pv 0) pe_int (fun _ _ => rfl)) pa_nil)))))))) pss_nil) (pss_cons (ps_if (pt_cmpR (op_eqK K.K rfl hr.units) (pe_ix (ix_K K.K rfl) (pv 1) pe_int (fun _ _ => rfl)) pe_str (nomark _)) (pss_one (ps_ret (pe_and (pe_d D__law_is_below (hr.mono (by omega)) (pa_cons (pe_ix (ix_K K.K rfl) (pv 1) pe_int (fun _ _ => rfl)) (pa_cons (pe_ix (ix_K K.K rfl) (pv 0) pe_int (fun _ _ => rfl)) pa_nil))) (pe_and (pe_cmpR op_isN (pe_d D__law_due (hr.mono (by omega)) (pa_cons (pv 0) (pa_cons (pe_ix (ix_K K.K rfl) (pv 1) pe_int (fun _ _ => rfl)) pa_nil))) pe_non (nomark _)) (pe_one (pe_cmpR op_isN (pe_d D__law_due (hr.mono (by omega)) (pa_cons (pv 0) (pa_cons (pe_ix (ix_K K.K rfl) (pv 1) pe_int (fun _ _ => rfl)) pa_nil))) pe_non (nomark _))))))) pss_nil) (pss_one (ps_ret (pe_or (pe_cmpR (op_eqK K.K rfl hr.units) (pe_ix (ix_K K.K rfl) (pv 1) pe_int (fun _ _ => rfl)) pe_str (nomark _)) (pe_one (pe_and (pe_d D__law_is_below (hr.mono (by omega)) (pa_cons (pe_ix (ix_K K.K rfl) (pv 1) pe_int (fun _ _ => rfl)) (pa_cons pe_int pa_nil))) (pe_one (pe_cmpR op_isN (pe_d D__law_due (hr.mono (by omega)) (pa_cons (pv 0) (pa_cons (pe_ix (ix_K K.K rfl) (pv 1) pe_int (fun _ _ => rfl)) pa_nil))) pe_non (nomark _))))))))))))), ?_⟩
  exact body_Q (N := ["frame", "row"]) (ec := ecOf C 99) (W := fun _ _ _ _ => False) (sd_seq (sd_if (et_or (et_not (et_tru (ed_isi1 ed_var))) (et_or (et_test (ed_op opd_eqS ed_var (ed_tup ea_nil))) (et_test (ed_op opd_notIn (ed_op opd_ix ed_var ed_int) (Eo.ed (eo_lst (ea_cons ed_str (ea_cons ed_str (ea_cons ed_str (ea_cons ed_str (ea_cons ed_str (ea_cons ed_str ea_nil)))))))))))) (sd_ret ed_bl) sd_next) (sd_seq (sd_if (et_test (ed_op opd_neS (ed_ca cad_len (ea_cons ed_var ea_nil)) (ed_op opd_ix (Eo.ed (eo_lst (ea_cons ed_int (ea_cons ed_int (ea_cons ed_int (ea_cons ed_int (ea_cons ed_int (ea_cons ed_int ea_nil)))))))) (ed_index (Eo.ed (eo_lst (ea_cons ed_str (ea_cons ed_str (ea_cons ed_str (ea_cons ed_str (ea_cons ed_str (ea_cons ed_str ea_nil)))))))) (ea_cons (ed_op opd_ix ed_var ed_int) ea_nil))))) (sd_ret ed_bl) sd_next) (sd_seq (sd_if (et_test (ed_op opd_eqS (ed_op opd_ix ed_var ed_int) ed_str)) (sd_ret (ed_and (ed_call (ea_cons (ed_op opd_ix ed_var ed_int) (ea_cons (ed_ca cad_len (ea_cons (ed_op opd_ix ed_var ed_int) ea_nil)) ea_nil))) (ed_call (ea_cons (ed_sl ed_var (eb_part ed_int) eb_no) (ea_cons ed_int (ea_cons (ed_op opd_ix ed_var ed_int) ea_nil)))))) sd_next) (sd_seq (sd_if (et_test (ed_op opd_in (ed_op opd_ix ed_var ed_int) (Eo.ed (eo_lst (ea_cons ed_str (ea_cons ed_str ea_nil)))))) (sd_ret (ed_and (ed_op opd_gt (ed_op opd_ix ed_var ed_int) ed_int) (ed_call (ea_cons (ed_sl ed_var (eb_part ed_int) eb_no) (ea_cons ed_int (ea_cons (ed_op opd_ix ed_var ed_int) ea_nil)))))) sd_next) (sd_seq (sd_if (et_test (ed_op opd_eqS (ed_op opd_ix ed_var ed_int) ed_str)) (sd_ret (ed_and (ed_call (ea_cons (ed_op opd_ix ed_var ed_int) (ea_cons (ed_op opd_ix ed_var ed_int) ea_nil))) (ed_and (ed_op opd_is (ed_call (ea_cons ed_var (ea_cons (ed_op opd_ix ed_var ed_int) ea_nil))) ed_non) (ed_op opd_is (ed_call (ea_cons ed_var (ea_cons (ed_op opd_ix ed_var ed_int) ea_nil))) ed_non)))) sd_next) (sd_ret (ed_or (ed_op opd_eqS (ed_op opd_ix ed_var ed_int) ed_str) (ed_and (ed_call (ea_cons (ed_op opd_ix ed_var ed_int) (ea_cons ed_int ea_nil))) (ed_op opd_is (ed_call (ea_cons ed_var (ea_cons (ed_op opd_ix ed_var ed_int) ea_nil))) ed_non))))))))) h
abbrev s__law_due : Stmt := top 42
theorem sc__law_due : FnScope ["frame", "value", "wrong", "at", "row"] ["frame", "value"] (defScope s__law_due) := ⟨rfl, rfl, rfl, by decide +kernel, rfl, by decide +kernel, by decide +kernel⟩
def den__law_due (fn__law_is_row : FnQ) : DS := (seqS (ifS (notB (truB (isi1M "tuple" (varM 1)))) (retS (unM negP (conM (.int 1)))) nextS) (seqS (asgS 2 (listM (lcM (enumSI (consM (varM 1) nilM)) (seqG (consG (nameG 3) (consG (nameG 4) nilG))) (notB (truB (callM 2 fn__law_is_row (consM (varM 0) (consM (varM 4) nilM))))) (varM 3) [3, 4]))) (retS (ifM (boolM (opM eqS (varM 2) (listM (lstM nilM)))) (conM .none) (opM ixP (varM 2) (conM (.int 0)))))))
theorem ok__law_due {fa__law_is_row : Addr} {fd__law_is_row : FuncData} {l__law_is_row : Nat} {fn__law_is_row : FnQ} {f : Addr} {fd : FuncData} (F : Fun K.K "_law_due" "_law_due" s__law_due f fd) (T : Txt K mg C B fI)
    (D__law_is_row : Dfn P w K.K mg base CX0 l__law_is_row "_law_is_row" ["frame", "row"] (spQ K 2 fn__law_is_row) fa__law_is_row fd__law_is_row) :
    FnOk P w K.K mg base CX0 (l__law_is_row + 0 + 1) f fd ["frame", "value"] (spQ K 2 (denQ 5 (den__law_due fn__law_is_row))) := by
  refine F.ok sc__law_due (fun vs H Q E h => by obtain ⟨_, _, ds, _, _, _, h2, h3, _⟩ := h; exact h2.length.trans h3) (fun cdv A outer s H vs Q E hr h => ?_)
  refine ⟨_, (pss_cons (ps_if (pt_not (pt_truK K.K rfl (pe_callB (call_isi1K K.K rfl) (by rfl) T.b_isinstance PyProof.Rows.boot_isinstance (pa_cons (pv 1) (pa_cons (pe_bltn (v := .ty "tuple") rfl T.b_tuple PyProof.Rows.boot_tuple rfl) pa_nil))))) (pss_one (ps_ret (pe_un un_neg pe_int))) pss_nil) (pss_cons (ps_setLc (i := 2) (own := [("at", 3), ("row", 4)]) rfl sc__law_due.nd rfl rfl (sw_true rfl rfl rfl (by decide +kernel)) (pi_enumK K.K rfl rfl T.b_enumerate (pa_cons (pv 1) pa_nil)) (blkOk_by (N := ["frame", "value", "wrong", "at", "row"]) (sc := defScope s__law_due) (by decide +kernel)) (fun _ _ _ _ _ => (pg_or (pg_tupK (n := 2) K.K rfl rfl (pgs_cons (pg_name (i := 3) sc__law_due.nd rfl (by first | exact Or.inl rfl | exact Or.inr rfl)) (pgs_cons (pg_name (i := 4) sc__law_due.nd rfl (by first | exact Or.inl rfl | exact Or.inr rfl)) pgs_nil))) (pg_unlK (n := 2) K.K rfl rfl (pgs_cons (pg_name (i := 3) sc__law_due.nd rfl (by first | exact Or.inl rfl | exact Or.inr rfl)) (pgs_cons (pg_name (i := 4) sc__law_due.nd rfl (by first | exact Or.inl rfl | exact Or.inr rfl)) pgs_nil))))) (fun _ _ _ _ _ => (pts_one (pt_not (pt_truK K.K rfl (pe_d D__law_is_row (hr.mono (by omega)) (pa_cons (pv 0) (pa_cons (pv 4) pa_nil))))))) (fun _ _ _ _ _ => (pv 3))) (pss_one (ps_ret (pe_ifExp (pt_cmpR (op_eqK K.K rfl hr.units) (pv 2) (pe_lst pa_nil) (nomark _)) pe_non (pe_ix (ix_K K.K rfl) (pv 2) pe_int (fun _ _ => rfl))))))), ?_⟩
  exact body_Q (N := ["frame", "value", "wrong", "at", "row"]) (ec := ecOf C 99) (W := fun _ _ _ _ => False) (sd_seq (sd_if (et_not (et_tru (ed_isi1 ed_var))) (sd_ret (ed_un und_neg ed_int)) sd_next) (sd_seq (sd_asg (Eo.ed (eo_lc (id_enumS (ea_cons ed_var ea_nil)) (gd_seq (gds_cons gd_name (gds_cons gd_name gds_nil)) (.cons (.cons .nil))) (by decide) (et_not (et_tru (ed_call (ea_cons ed_var (ea_cons ed_var ea_nil))))) ed_var))) (sd_ret (ed_if (et_test (ed_op opd_eqS ed_var (Eo.ed (eo_lst ea_nil)))) ed_non (ed_op opd_ix ed_var ed_int))))) h
abbrev s__law_bent : Stmt := top 43
theorem sc__law_bent : FnScope ["box", "value", "deep", "at"] ["box", "value", "deep"] (defScope s__law_bent) := ⟨rfl, rfl, rfl, by decide +kernel, rfl, by decide +kernel, by decide +kernel⟩
def den__law_bent (fn__law_pick : FnB) (fn__law_take : FnB) (fn__law_bent : FnB) : DS := (seqS (ifS (andB (boolM (opM gtP (varM 2) (conM (.int 0)))) (andB (truB (isi1M "tuple" (varM 1))) (andB (boolM (opM neS (varM 1) (tupM nilM))) (boolM (opM gtP (callB 1 0 fn__law_take (consM (conM (.int 6)) nilM)) (conM (.int 0))))))) (seqS (asgS 3 (callB 1 0 fn__law_take (consM (caM lenP (consM (varM 1) nilM)) nilM))) (retS (opM addP (opM addP (slM (varM 1) noM (partM (varM 3))) (tupM (consM (callB 2 0 fn__law_bent (consM (opM ixP (varM 1) (varM 3)) (consM (opM subP (varM 2) (conM (.int 1))) nilM))) nilM))) (slM (varM 1) (partM (opM addP (varM 3) (conM (.int 1)))) noM)))) nextS) (seqS (ifS (truB (isi1M "tuple" (varM 1))) (retS (callB 1 0 fn__law_pick (consM (listM (lstM (consM (caM listP (consM (varM 1) nilM)) (consM (opM addP (varM 1) (slM (varM 1) noM (partM (conM (.int 1))))) (consM (slM (varM 1) (partM (conM (.int 1))) noM) (consM (unM revP (varM 1)) (consM (conM .none) (consM (opM addP (varM 1) (tupM (consM (conM (.int 0)) nilM))) nilM)))))))) nilM))) nextS) (seqS (ifS (truB (isi1M "str" (varM 1))) (retS (callB 1 0 fn__law_pick (consM (listM (lstM (consM (conM (.str "op")) (consM (conM (.str "load")) (consM (conM (.str "store")) (consM (conM (.str "fence")) (consM (conM (.str "fork")) (consM (conM (.str "loop")) (consM (conM (.str "row")) (consM (conM .none) nilM)))))))))) nilM))) nextS) (retS (callB 1 0 fn__law_pick (consM (listM (lstM (consM (conM .none) (consM (conM (.int 0)) (consM (conM (.int 1)) (consM (conM (.int 2)) (consM (conM (.int 3)) (consM (conM (.int 4)) (consM (conM (.int 5)) (consM (unM negP (conM (.int 1))) (consM (conM (.bool true)) (consM (conM (.str "1")) nilM)))))))))))) nilM))))))
theorem ok__law_bent {fa__law_pick : Addr} {fd__law_pick : FuncData} {fa__law_take : Addr} {fd__law_take : FuncData} {fa__law_bent : Addr} {fd__law_bent : FuncData} {l__law_bent : Nat} {fn__law_pick : FnB} {fn__law_take : FnB} {fn__law_bent : FnB} {f : Addr} {fd : FuncData} (F : Fun K.K "_law_bent" "_law_bent" s__law_bent f fd) (T : Txt K mg C B fI)
    (D__law_pick : Dfn P w K.K mg base CX0 2 "_law_pick" ["box", "some"] (spB K 1 fn__law_pick) fa__law_pick fd__law_pick)
    (D__law_take : Dfn P w K.K mg base CX0 1 "_law_take" ["box", "many"] (spB K 1 fn__law_take) fa__law_take fd__law_take)
    (D__law_bent : Dfn P w K.K mg base CX0 l__law_bent "_law_bent" ["box", "value", "deep"] (spB K 2 fn__law_bent) fa__law_bent fd__law_bent) :
    FnOk P w K.K mg base CX0 (l__law_bent + 2 + 1) f fd ["box", "value", "deep"] (spB K 2 (denB 4 (den__law_bent fn__law_pick fn__law_take fn__law_bent))) := by
  refine F.ok sc__law_bent (fun vs H Q E h => by obtain ⟨_, _, a, bs, bd, ws, ds, d, bd2, rfl, _, _, _, _, _, h2, h3, _⟩ := h; exact congrArg (· + 1) (h2.length.trans h3)) (fun cdv A outer s H vs Q E hr h => ?_)
  refine ⟨_, (pss_cons (ps_if (PW.pt (pw_and (pt_cmpR op_gt (pv 2) pe_int (nomark _)) (pw_and (pt_truK K.K rfl (pe_callB (call_isi1K K.K rfl) (by rfl) T.b_isinstance PyProof.Rows.boot_isinstance (pa_cons (pv 1) (pa_cons (pe_bltn (v := .ty "tuple") rfl T.b_tuple PyProof.Rows.boot_tuple rfl) pa_nil)))) (pw_and (pt_cmpR (op_neK K.K rfl hr.units) (pv 1) (pe_tup pa_nil) (nomark _)) (pw_and1 (pt_cmpR op_gt (pe_d D__law_take (hr.mono (by omega)) (pa_cons (pv 0) (pa_cons pe_int pa_nil))) pe_int (nomark _))))))) (pss_cons (ps_set (i := 3) sc__law_bent.nd rfl (by first | exact Or.inl rfl | exact Or.inr rfl) (pe_d D__law_take (hr.mono (by omega)) (pa_cons (pv 0) (pa_cons (pe_callB (call_lenK K.K rfl) (by rfl) T.b_len PySem.boot_len (pa_cons (pv 1) pa_nil)) pa_nil)))) (pss_one (ps_ret (pe_op (op_addK K.K rfl) (pe_op (op_addK K.K rfl) (pe_slice (sl_K K.K rfl) (pv 1) po_none (po_some (pv 3))) (pe_tup (pa_cons (pe_d D__law_bent (hr.mono (by omega)) (pa_cons (pv 0) (pa_cons (pe_ix (ix_K K.K rfl) (pv 1) (pv 3) (fun _ _ => rfl)) (pa_cons (pe_op op_sub (pv 2) pe_int) pa_nil)))) pa_nil))) (pe_slice (sl_K K.K rfl) (pv 1) (po_some (pe_op (op_addK K.K rfl) (pv 3) pe_int)) po_none))))) pss_nil) (pss_cons (ps_if (pt_truK K.K rfl (pe_callB (call_isi1K K.K rfl) (by rfl) T.b_isinstance PyProof.Rows.boot_isinstance (pa_cons (pv 1) (pa_cons (pe_bltn (v := .ty "tuple") rfl T.b_tuple PyProof.Rows.boot_tuple rfl) pa_nil)))) (pss_one (ps_ret (pe_d D__law_pick (hr.mono (by omega)) (pa_cons (pv 0) (pa_cons (pe_lst (pa_cons (pe_callTy (call_listK K.K rfl) (by rfl) T.b_list PyProof.Rows.boot_list (pa_cons (pv 1) pa_nil)) (pa_cons (pe_op (op_addK K.K rfl) (pv 1) (pe_slice (sl_K K.K rfl) (pv 1) po_none (po_some pe_int))) (pa_cons (pe_slice (sl_K K.K rfl) (pv 1) (po_some pe_int) po_none) (pa_cons (pe_revK K.K rfl (pv 1)) (pa_cons pe_non (pa_cons (pe_op (op_addK K.K rfl) (pv 1) (pe_tup (pa_cons pe_int pa_nil))) pa_nil))))))) pa_nil))))) pss_nil) (pss_cons (ps_if (pt_truK K.K rfl (pe_callB (call_isi1K K.K rfl) (by rfl) T.b_isinstance PyProof.Rows.boot_isinstance (pa_cons (pv 1) (pa_cons (pe_bltn (v := .ty "str") rfl T.b_str PyProof.Rows.boot_str rfl) pa_nil)))) (pss_one (ps_ret (pe_d D__law_pick (hr.mono (by omega)) (pa_cons (pv 0) (pa_cons (pe_lst (pa_cons pe_str (pa_cons pe_str (pa_cons pe_str (pa_cons pe_str (pa_cons pe_str (pa_cons pe_str (pa_cons pe_str (pa_cons pe_non pa_nil))))))))) pa_nil))))) pss_nil) (pss_one (ps_ret (pe_d D__law_pick (hr.mono (by omega)) (pa_cons (pv 0) (pa_cons (pe_lst (pa_cons pe_non (pa_cons pe_int (pa_cons pe_int (pa_cons pe_int (pa_cons pe_int (pa_cons pe_int (pa_cons pe_int (pa_cons (pe_un un_neg pe_int) (pa_cons pe_bl (pa_cons pe_str pa_nil))))))))))) pa_nil)))))))), ?_⟩
  exact body_B (N := ["box", "value", "deep", "at"]) (ec := ecOf C 99) (W := fun _ _ _ _ => False) (sd_seq (sd_if (et_and (et_test (ed_op opd_gt ed_var ed_int)) (et_and (et_tru (ed_isi1 ed_var)) (et_and (et_test (ed_op opd_neS ed_var (ed_tup ea_nil))) (et_test (ed_op opd_gt (ed_callB (ea_cons ed_int ea_nil)) ed_int))))) (sd_seq (sd_asg (ed_callB (ea_cons (ed_ca cad_len (ea_cons ed_var ea_nil)) ea_nil))) (sd_ret (ed_op opd_add (ed_op opd_add (ed_sl ed_var eb_no (eb_part ed_var)) (ed_tup (ea_cons (ed_callB (ea_cons (ed_op opd_ix ed_var ed_var) (ea_cons (ed_op opd_sub ed_var ed_int) ea_nil))) ea_nil))) (ed_sl ed_var (eb_part (ed_op opd_add ed_var ed_int)) eb_no)))) sd_next) (sd_seq (sd_if (et_tru (ed_isi1 ed_var)) (sd_ret (ed_callB (ea_cons (Eo.ed (eo_lst (ea_cons (ed_ca cad_list (ea_cons ed_var ea_nil)) (ea_cons (ed_op opd_add ed_var (ed_sl ed_var eb_no (eb_part ed_int))) (ea_cons (ed_sl ed_var (eb_part ed_int) eb_no) (ea_cons (ed_un und_rev ed_var) (ea_cons ed_non (ea_cons (ed_op opd_add ed_var (ed_tup (ea_cons ed_int ea_nil))) ea_nil)))))))) ea_nil))) sd_next) (sd_seq (sd_if (et_tru (ed_isi1 ed_var)) (sd_ret (ed_callB (ea_cons (Eo.ed (eo_lst (ea_cons ed_str (ea_cons ed_str (ea_cons ed_str (ea_cons ed_str (ea_cons ed_str (ea_cons ed_str (ea_cons ed_str (ea_cons ed_non ea_nil)))))))))) ea_nil))) sd_next) (sd_ret (ed_callB (ea_cons (Eo.ed (eo_lst (ea_cons ed_non (ea_cons ed_int (ea_cons ed_int (ea_cons ed_int (ea_cons ed_int (ea_cons ed_int (ea_cons ed_int (ea_cons (ed_un und_neg ed_int) (ea_cons ed_bl (ea_cons ed_str ea_nil)))))))))))) ea_nil)))))) h
end
end K06

namespace K06
open PySem L2 Evl Pd
section
variable {P : Program} {w : World} {K : PKt} {mg : Str → Option Value} {base : Heap} {C fI : Nat → Addr} {B : Addr}
abbrev s__law_heard : Stmt := top 44
theorem sc__law_heard : FnScope ["work", "e"] ["work"] (defScope s__law_heard) := ⟨rfl, rfl, rfl, by decide +kernel, rfl, by decide +kernel, by decide +kernel⟩
abbrev L__law_heard (K : PKt) (mg : Str → Option Value) (C : Nat → Addr) : List Cls := [(.ref (C 0), some 1, fun a cls d => tRet (tTup (tCons (tC (.str "frame")) (tCons (tFldA K.K mg a cls d (tVar 1)) tNil)))), (.ref (C 2), some 1, fun a cls d => tRet (tTup (tCons (tC (.str "datum")) (tCons (tFldA K.K mg a cls d (tVar 1)) tNil)))), (.ref (C 1), some 1, fun a cls d => tRet (tTup (tCons (tC (.str "program")) (tCons (tFldA K.K mg a cls d (tVar 1)) tNil))))]
def hs__law_heard : DH := (consH (hitE 3 0) (fun d => .tuple [.str "frame", d]) (consH (hitE 3 2) (fun d => .tuple [.str "datum", d]) (consH (hitE 3 1) (fun d => .tuple [.str "program", d]) nilH)))
theorem hres__law_heard (T : Txt K mg C B fI) : Hres K (ecOf C 99) 2 (L__law_heard K mg C) hs__law_heard := (hres_wordA (mg := mg) (by decide) (hitE_exm (by decide) T.exm) (fun c e => by cases hitE_true e; exact ⟨rfl, _, _, _, _, T.x_InvalidFrame⟩) (hres_wordA (mg := mg) (by decide) (hitE_exm (by decide) T.exm) (fun c e => by cases hitE_true e; exact ⟨rfl, _, _, _, _, T.x_InvalidDatum⟩) (hres_wordA (mg := mg) (by decide) (hitE_exm (by decide) T.exm) (fun c e => by cases hitE_true e; exact ⟨rfl, _, _, _, _, T.x_InvalidProgram⟩) hres_nil)))
theorem gives__law_heard {X : Cx} (T : Txt K mg C B fI) (hK : X.K = K.K) (hm : X.mg = mg) {ga : Addr} {cdg : Value} {q : Str} : LamX.GivesTo X ["work", "e"] "_law_heard" (defScope s__law_heard) ga cdg (defBody s__law_heard) "work" q (TTg K.K 2 (L__law_heard K mg C) cNone (wPair "is")) := by
  obtain ⟨P1, w1, K1, mg1, base1, A1, N1, s1, H1, env1, outer1, stack1, ex1, fn1, calm1, pn1, xe1⟩ := X
  cases hm
  cases hK
  exact told_pair sc__law_heard.nd (fun f => rfl) (fun s H => (.named (i := 1) ⟨rfl, by decide, .inl T.x_InvalidFrame.base.gC⟩ rfl rfl (fun a oe cls d pn hz hf => (pss_one (ps_ret (pe_tup (pa_cons pe_str (pa_cons (pe_fld_A hz hf (pv 1)) pa_nil)))))) (.named (i := 1) ⟨rfl, by decide, .inl T.x_InvalidDatum.base.gC⟩ rfl rfl (fun a oe cls d pn hz hf => (pss_one (ps_ret (pe_tup (pa_cons pe_str (pa_cons (pe_fld_A hz hf (pv 1)) pa_nil)))))) (.named (i := 1) ⟨rfl, by decide, .inl T.x_InvalidProgram.base.gC⟩ rfl rfl (fun a oe cls d pn hz hf => (pss_one (ps_ret (pe_tup (pa_cons pe_str (pa_cons (pe_fld_A hz hf (pv 1)) pa_nil)))))) .nil))))
abbrev s_law : Stmt := top 45
theorem sc_law : FnScope ["script", "frame", "k", "box", "program", "datum", "rows", "spot", "longer", "row", "value", "turn", "wrong", "at", "bent", "odd", "right", "works", "work", "told"] ["script"] (defScope s_law) := ⟨rfl, rfl, rfl, by decide +kernel, rfl, by decide +kernel, by decide +kernel⟩
def pa_law : Nat → Arguments := fun j => match j with | 0 => lamA ((xArgs ((xArgs (sExp ((sBod ((defBody s_law).getD 2 nS)).getD 8 nS))).getD 0 nX)).getD 0 nX) | 1 => lamA ((xArgs ((xArgs (sExp ((sBod ((defBody s_law).getD 2 nS)).getD 9 nS))).getD 0 nX)).getD 0 nX) | 2 => lamA ((xArgs ((xArgs (sExp ((sBod ((defBody s_law).getD 2 nS)).getD 10 nS))).getD 0 nX)).getD 0 nX) | _ => lamA nX
def bo_law : Nat → Expr := fun j => match j with | 0 => lamB ((xArgs ((xArgs (sExp ((sBod ((defBody s_law).getD 2 nS)).getD 8 nS))).getD 0 nX)).getD 0 nX) | 1 => lamB ((xArgs ((xArgs (sExp ((sBod ((defBody s_law).getD 2 nS)).getD 9 nS))).getD 0 nX)).getD 0 nX) | 2 => lamB ((xArgs ((xArgs (sExp ((sBod ((defBody s_law).getD 2 nS)).getD 10 nS))).getD 0 nX)).getD 0 nX) | _ => lamB nX
def sc__law : Nat → Scope := fun j => match j with | 0 => lamC ((xArgs ((xArgs (sExp ((sBod ((defBody s_law).getD 2 nS)).getD 8 nS))).getD 0 nX)).getD 0 nX) | 1 => lamC ((xArgs ((xArgs (sExp ((sBod ((defBody s_law).getD 2 nS)).getD 9 nS))).getD 0 nX)).getD 0 nX) | 2 => lamC ((xArgs ((xArgs (sExp ((sBod ((defBody s_law).getD 2 nS)).getD 10 nS))).getD 0 nX)).getD 0 nX) | _ => lamC nX
noncomputable def den_law (fn__law_box : FnN) (fn__law_frame : FnB) (fn_unrolled : FnE) (fn__law_rows : FnB) (fn__law_datum : FnB) (fn__law_bent : FnB) (fn__law_frame_due : FnQ) (fn__law_due : FnQ) (fn__law_are_below : FnQ) (fn_all_data : FnE) (fn__law_take : FnB) (fn_need_frame : FnE) (fn_need_program : FnE) (fn_need_datum : FnE) (fn__law_plain : FnQ) : DS := (seqS (asgS 1 (tupM (consM (conM (.int 2)) (consM (conM (.int 1)) (consM (conM (.int 2)) (consM (tupM nilM) (consM (conM (.int 1)) nilM))))))) (seqS (ifS (orB (boolM (opM neS (opM ixP (callE 1 fn_all_data (consM (varM 1) nilM)) (conM (.int 3))) (tupM (consM (conM (.int 0)) (consM (conM (.int 1)) (consM (conM (.int 1)) nilM)))))) (orB (boolM (opM neS (caM lenP (consM (callE 1 fn_all_data (consM (varM 1) nilM)) nilM)) (conM (.int 8)))) (boolM (opM neS (callE 2 fn_unrolled (consM (varM 1) (consM (tupM (consM (tupM (consM (conM (.str "loop")) (consM (conM (.int 2)) (consM (tupM (consM (tupM (consM (conM (.str "fence")) nilM)) nilM)) nilM)))) (consM (tupM (consM (conM (.str "loop")) (consM (conM (.int 0)) (consM (tupM (consM (tupM (consM (conM (.str "fence")) nilM)) nilM)) nilM)))) nilM))) nilM))) (opM mulP (tupM (consM (tupM (consM (conM (.str "fence")) nilM)) nilM)) (conM (.int 2))))))) (retS (conM (.bool false))) nextS) (seqS (forS (rng1M (consM (conM (.int 2)) nilM)) (nameG 2) (seqS (asgO 3 (callN 2 fn__law_box (consM (varM 0) (consM (varM 2) nilM)))) (seqS (asgS 1 (callB 0 3 fn__law_frame nilM)) (seqS (parS 4 5 (consM (callB 3 3 fn__law_rows (consM (varM 1) (consM (callB 1 3 fn__law_take (consM (conM (.int 6)) nilM)) (consM (conM (.int 2)) nilM)))) (consM (callB 1 3 fn__law_datum (consM (varM 1) nilM)) nilM))) (seqS (ifS (orB (boolM (opM neS (kwE 1 [0] 1 fn_need_frame (consM (varM 1) nilM)) (varM 1))) (orB (boolM (opM neS (kwE 2 [0, 1] 2 fn_need_program (consM (varM 1) (consM (varM 4) nilM))) (varM 4))) (boolM (opM neS (kwE 2 [0, 1] 2 fn_need_datum (consM (varM 1) (consM (varM 5) nilM))) (varM 5))))) (retS (conM (.bool false))) nextS) (seqS (asgS 6 (listM (lstM (consM (tupM nilM) nilM)))) (seqS (forS (rng1M (consM (opM addP (opM ixP (varM 1) (conM (.int 1))) (opM ixP (varM 1) (conM (.int 2)))) nilM)) (nameG 7) (seqS (asgO 8 (lstM nilM)) (seqS (forS (seqI (varM 6)) (nameG 9) (extS 8 (listM (lcM (rng1M (consM (opM ixP (varM 1) (conM (.int 0))) nilM)) (nameG 10) yesB (opM addP (varM 9) (tupM (consM (varM 10) nilM))) [10])))) (asgS 6 (letM 8))))) (seqS (ifS (orB (boolM (opM neS (kwE 1 [0] 1 fn_all_data (consM (varM 1) nilM)) (caM tupleP (consM (varM 6) nilM)))) (boolM (opM neS (kwE 2 [0, 1] 2 fn_unrolled (consM (varM 1) (consM (varM 4) nilM))) (caM tupleP (consM (callM 1 fn__law_plain (consM (varM 4) nilM)) nilM))))) (retS (conM (.bool false))) nextS) (seqS (forS (rng1M (consM (conM (.int 5)) nilM)) (nameG 11) (seqS (asgS 12 (callB 2 3 fn__law_bent (consM (varM 1) (consM (conM (.int 4)) nilM)))) (seqS (asgS 13 (callM 1 fn__law_frame_due (consM (varM 12) nilM))) (seqS (ifS (boolM (opM neS (toldG hs__law_heard (fun d => .tuple [.str "is", d]) (callE 1 fn_need_frame (consM (varM 12) nilM))) (ifM (boolM (opM isP (varM 13) (conM .none))) (tupM (consM (conM (.str "is")) (consM (varM 12) nilM))) (tupM (consM (conM (.str "frame")) (consM (varM 13) nilM)))))) (retS (conM (.bool false))) nextS) (seqS (asgS 14 (callB 2 3 fn__law_bent (consM (varM 4) (consM (conM (.int 6)) nilM)))) (seqS (asgS 13 (callM 2 fn__law_due (consM (varM 1) (consM (varM 14) nilM)))) (seqS (ifS (boolM (opM neS (toldG hs__law_heard (fun d => .tuple [.str "is", d]) (callE 2 fn_need_program (consM (varM 1) (consM (varM 14) nilM)))) (ifM (boolM (opM isP (varM 13) (conM .none))) (tupM (consM (conM (.str "is")) (consM (varM 14) nilM))) (tupM (consM (conM (.str "program")) (consM (varM 13) nilM)))))) (retS (conM (.bool false))) nextS) (seqS (asgS 15 (callB 2 3 fn__law_bent (consM (varM 5) (consM (conM (.int 2)) nilM)))) (seqS (asgS 16 (callM 3 fn__law_are_below (consM (varM 15) (consM (opM addP (opM ixP (varM 1) (conM (.int 1))) (opM ixP (varM 1) (conM (.int 2)))) (consM (opM ixP (varM 1) (conM (.int 0))) nilM))))) (ifS (boolM (opM neS (toldG hs__law_heard (fun d => .tuple [.str "is", d]) (callE 2 fn_need_datum (consM (varM 1) (consM (varM 15) nilM)))) (ifM (truB (varM 16)) (tupM (consM (conM (.str "is")) (consM (varM 15) nilM))) (tupM (consM (conM (.str "datum")) (consM (unM negP (conM (.int 1))) nilM)))))) (retS (conM (.bool false))) nextS)))))))))) (seqS (asgO 17 (lstM (consM (tupM (consM (conM (lamD 0)) (consM (tupM (consM (conM (.str "frame")) (consM (unM negP (conM (.int 1))) nilM))) nilM))) nilM))) (seqS (appS 17 (tupM (consM (conM (lamD 1)) (consM (tupM (consM (conM (.str "program")) (consM (unM negP (conM (.int 1))) nilM))) nilM)))) (seqS (appS 17 (tupM (consM (conM (lamD 2)) (consM (tupM (consM (conM (.str "frame")) (consM (unM negP (conM (.int 1))) nilM))) nilM)))) (ifS (boolM (opM neS (listM (lcM (seqI (letM 17)) (seqG (consG (nameG 18) (consG (nameG 19) nilG))) (boolM (opM neS (heardG hs__law_heard (fun d => .tuple [.str "is", d]) (fun j => ([(callE 2 fn_unrolled (consM (conM .none) (consM (conM .none) nilM))), (callE 2 fn_unrolled (consM (varM 1) (consM (conM .none) nilM))), (callE 1 fn_all_data (consM (slM (varM 1) noM (partM (conM (.int 4)))) nilM))] : List DE).getD j (conM .none)) (varM 18)) (varM 19))) (varM 18) [18, 19])) (listM (lstM nilM)))) (retS (conM (.bool false))) nextS))))))))))))) (retS (conM (.bool true))))))
theorem ok_law {fa__law_box : Addr} {fd__law_box : FuncData} {fa__law_frame : Addr} {fd__law_frame : FuncData} {fa_unrolled : Addr} {fd_unrolled : FuncData} {fa__law_rows : Addr} {fd__law_rows : FuncData} {fa__law_datum : Addr} {fd__law_datum : FuncData} {fa__law_bent : Addr} {fd__law_bent : FuncData} {fa__law_frame_due : Addr} {fd__law_frame_due : FuncData} {fa__law_due : Addr} {fd__law_due : FuncData} {fa__law_are_below : Addr} {fd__law_are_below : FuncData} {fa_all_data : Addr} {fd_all_data : FuncData} {fa__law_take : Addr} {fd__law_take : FuncData} {fa_need_frame : Addr} {fd_need_frame : FuncData} {fa_need_program : Addr} {fd_need_program : FuncData} {fa_need_datum : Addr} {fd_need_datum : FuncData} {fa__law_plain : Addr} {fd__law_plain : FuncData} {fa__law_heard : Addr} {fd__law_heard : FuncData} {fn__law_box : FnN} {fn__law_frame : FnB} {fn_unrolled : FnE} {fn__law_rows : FnB} {fn__law_datum : FnB} {fn__law_bent : FnB} {fn__law_frame_due : FnQ} {fn__law_due : FnQ} {fn__law_are_below : FnQ} {fn_all_data : FnE} {fn__law_take : FnB} {fn_need_frame : FnE} {fn_need_program : FnE} {fn_need_datum : FnE} {fn__law_plain : FnQ} {fa c Pt : Addr} {kV doc pm ct oc : Value} {an od : Option Addr} {osl : Array (Option Value)} (lk : K.K.lookup fa = some ⟨oc, od, .func (PySem.W.fnOf "law" "law" (defArgs s_law) (defBody s_law) (defScope s_law) .none kV doc pm an (.ref c) ct), osl⟩) (hcd : PySem.W.codeIn K.K (.ref c) "law" = true)
    (h0 : K.ln = 0) (hTm : (Pt, ("law.<locals>.<lambda>" : Str)) ∈ K.T) (hTu : ∀ p ∈ K.T, p.1 = Pt → p.2 = ("law.<locals>.<lambda>" : Str)) (TBc : LamX.TabB base mg c Pt) (T0 : Txt K mg C B fI)
    (D__law_box : ∀ J : LamK, Dfn P w K.K mg base CX0 1 "_law_box" ["script", "k"] (spN (K.withL J) 2 fn__law_box) fa__law_box fd__law_box)
    (D__law_frame : ∀ J : LamK, Dfn P w K.K mg base CX0 3 "_law_frame" ["box"] (spB (K.withL J) 0 fn__law_frame) fa__law_frame fd__law_frame)
    (D_unrolled : ∀ J : LamK, Dfn P w K.K mg base (L2.CX P w) 52 "unrolled" ["frame", "program"] (spE (K.withL J) (ecOf C 99) 2 fn_unrolled) fa_unrolled fd_unrolled)
    (D__law_rows : ∀ J : LamK, Dfn P w K.K mg base CX0 16 "_law_rows" ["box", "frame", "many", "deep"] (spB (K.withL J) 3 fn__law_rows) fa__law_rows fd__law_rows)
    (D__law_datum : ∀ J : LamK, Dfn P w K.K mg base CX0 2 "_law_datum" ["box", "frame"] (spB (K.withL J) 1 fn__law_datum) fa__law_datum fd__law_datum)
    (D__law_bent : ∀ J : LamK, Dfn P w K.K mg base CX0 24 "_law_bent" ["box", "value", "deep"] (spB (K.withL J) 2 fn__law_bent) fa__law_bent fd__law_bent)
    (D__law_frame_due : ∀ J : LamK, Dfn P w K.K mg base CX0 3 "_law_frame_due" ["value"] (spQ (K.withL J) 1 fn__law_frame_due) fa__law_frame_due fd__law_frame_due)
    (D__law_due : ∀ J : LamK, Dfn P w K.K mg base CX0 33 "_law_due" ["frame", "value"] (spQ (K.withL J) 2 fn__law_due) fa__law_due fd__law_due)
    (D__law_are_below : ∀ J : LamK, Dfn P w K.K mg base CX0 2 "_law_are_below" ["value", "many", "limit"] (spQ (K.withL J) 3 fn__law_are_below) fa__law_are_below fd__law_are_below)
    (D_all_data : ∀ J : LamK, Dfn P w K.K mg base (L2.CX P w) 10 "all_data" ["frame"] (spE (K.withL J) (ecOf C 99) 1 fn_all_data) fa_all_data fd_all_data)
    (D__law_take : ∀ J : LamK, Dfn P w K.K mg base CX0 1 "_law_take" ["box", "many"] (spB (K.withL J) 1 fn__law_take) fa__law_take fd__law_take)
    (D_need_frame : ∀ J : LamK, Dfn P w K.K mg base (L2.CX P w) 8 "need_frame" ["value"] (spE (K.withL J) (ecOf C 99) 1 fn_need_frame) fa_need_frame fd_need_frame)
    (D_need_program : ∀ J : LamK, Dfn P w K.K mg base (L2.CX P w) 50 "need_program" ["frame", "value"] (spE (K.withL J) (ecOf C 99) 2 fn_need_program) fa_need_program fd_need_program)
    (D_need_datum : ∀ J : LamK, Dfn P w K.K mg base (L2.CX P w) 10 "need_datum" ["frame", "value"] (spE (K.withL J) (ecOf C 99) 2 fn_need_datum) fa_need_datum fd_need_datum)
    (D__law_plain : ∀ J : LamK, Dfn P w K.K mg base CX0 8 "_law_plain" ["rows"] (spQ (K.withL J) 1 fn__law_plain) fa__law_plain fd__law_plain)
    (KB_need_frame_value : KOnly K.K fd_need_frame ["value"] ["value"] [0])
    (KB_need_program_frame_value : KOnly K.K fd_need_program ["frame", "value"] ["frame", "value"] [0, 1])
    (KB_need_datum_frame_value : KOnly K.K fd_need_datum ["frame", "value"] ["frame", "value"] [0, 1])
    (KB_all_data_frame : KOnly K.K fd_all_data ["frame"] ["frame"] [0])
    (KB_unrolled_frame_program : KOnly K.K fd_unrolled ["frame", "program"] ["frame", "program"] [0, 1])
    (F__law_heard : Fun K.K "_law_heard" "_law_heard" s__law_heard fa__law_heard fd__law_heard) (m__law_heard : mg "_law_heard" = some (.ref fa__law_heard)) (b__law_heard : Binds K.K fd__law_heard ["work"] []) :
    FnG P w K.K mg base CX0 55 fa (PySem.W.fnOf "law" "law" (defArgs s_law) (defBody s_law) (defScope s_law) .none kV doc pm an (.ref c) ct) ["script"] (spL K 1 (denQ 20 (den_law fn__law_box fn__law_frame fn_unrolled fn__law_rows fn__law_datum fn__law_bent fn__law_frame_due fn__law_due fn__law_are_below fn_all_data fn__law_take fn_need_frame fn_need_program fn_need_datum fn__law_plain))) := by
  refine fn_ofG lk hcd sc_law (fun vs H Q E h => spL_length h) (fun A outer s H vs Q E hg hr h => ?_)
  have main : ∃ t, PSs (cxOf CX0 P w K.K mg base ["script", "frame", "k", "box", "program", "datum", "rows", "spot", "longer", "row", "value", "turn", "wrong", "at", "bent", "odd", "right", "works", "work", "told"] "law" (defScope s_law) fa (.ref c) A outer s H E).nox (defBody s_law) t ∧ t { nx := fun _ H2 => Q .non H2, rt := Q } (L2.start ["script", "frame", "k", "box", "program", "datum", "rows", "spot", "longer", "row", "value", "turn", "wrong", "at", "bent", "odd", "right", "works", "work", "told"] vs) H := by
    let J : LamK := ⟨3, ((cxOf CX0 P w K.K mg base ["script", "frame", "k", "box", "program", "datum", "rows", "spot", "longer", "row", "value", "turn", "wrong", "at", "bent", "odd", "right", "works", "work", "told"] "law" (defScope s_law) fa (.ref c) A outer s H E).nox.env.qual ++ ("<lambda>" : Str)), PLam.LamJ (cxOf CX0 P w K.K mg base ["script", "frame", "k", "box", "program", "datum", "rows", "spot", "longer", "row", "value", "turn", "wrong", "at", "bent", "odd", "right", "works", "work", "told"] "law" (defScope s_law) fa (.ref c) A outer s H E).nox pa_law bo_law sc__law⟩
    have T : Txt (K.withL J) mg C B fI := T0.up J
    have h := spL_up h0 J h
    have D__law_box := D__law_box J
    have D__law_frame := D__law_frame J
    have D_unrolled := D_unrolled J
    have D__law_rows := D__law_rows J
    have D__law_datum := D__law_datum J
    have D__law_bent := D__law_bent J
    have D__law_frame_due := D__law_frame_due J
    have D__law_due := D__law_due J
    have D__law_are_below := D__law_are_below J
    have D_all_data := D_all_data J
    have D__law_take := D__law_take J
    have D_need_frame := D_need_frame J
    have D_need_program := D_need_program J
    have D_need_datum := D_need_datum J
    have D__law_plain := D__law_plain J
    obtain ⟨t0, hb0, eb0⟩ : ∃ t0 : XK → TE, (∀ (A2 : Around) (outer2 : List Env) (s2 : Shared) (H2 : Hp) (E2 : XK) (f2 c2 : Addr), Room 52 (A2.deeper (LamX.lamEnv (cxOf CX0 P w K.K mg base ["script", "frame", "k", "box", "program", "datum", "rows", "spot", "longer", "row", "value", "turn", "wrong", "at", "bent", "odd", "right", "works", "work", "told"] "law" (defScope s_law) fa (.ref c) A outer s H E).nox (sc__law 0) s2.heap.objs.size f2 c2)) → PE (LamX.lamCx (cxOf CX0 P w K.K mg base ["script", "frame", "k", "box", "program", "datum", "rows", "spot", "longer", "row", "value", "turn", "wrong", "at", "bent", "odd", "right", "works", "work", "told"] "law" (defScope s_law) fa (.ref c) A outer s H E).nox A2 outer2 s2 H2 E2 (sc__law 0) f2 c2) (bo_law 0) (t0 E2)) ∧ (∀ E2 : XK, Ed (K.withL J) (ecOf C 99) (fun cls d _ H => E2 cls d H) (t0 E2) (callE 2 fn_unrolled (consM (conM .none) (consM (conM .none) nilM)))) :=
      ⟨fun E2 => _, fun A2 outer2 s2 H2 E2 f2 c2 hr => (have tk := takes_of (X := LamX.lamCx (cxOf CX0 P w K.K mg base ["script", "frame", "k", "box", "program", "datum", "rows", "spot", "longer", "row", "value", "turn", "wrong", "at", "bent", "odd", "right", "works", "work", "told"] "law" (defScope s_law) fa (.ref c) A outer s H E).nox A2 outer2 s2 H2 E2 (sc__law 0) f2 c2) (E := E2) rfl rfl rfl rfl; (pe_dS D_unrolled (hr.mono (by omega)) tk (pa_cons pe_non (pa_cons pe_non pa_nil)))), fun E2 => (ed_callE (ea_cons ed_non (ea_cons ed_non ea_nil)))⟩
    obtain ⟨t1, hb1, eb1⟩ : ∃ t1 : XK → TE, (∀ (A2 : Around) (outer2 : List Env) (s2 : Shared) (H2 : Hp) (E2 : XK) (f2 c2 : Addr), Room 52 (A2.deeper (LamX.lamEnv (cxOf CX0 P w K.K mg base ["script", "frame", "k", "box", "program", "datum", "rows", "spot", "longer", "row", "value", "turn", "wrong", "at", "bent", "odd", "right", "works", "work", "told"] "law" (defScope s_law) fa (.ref c) A outer s H E).nox (sc__law 1) s2.heap.objs.size f2 c2)) → PE (LamX.lamCx (cxOf CX0 P w K.K mg base ["script", "frame", "k", "box", "program", "datum", "rows", "spot", "longer", "row", "value", "turn", "wrong", "at", "bent", "odd", "right", "works", "work", "told"] "law" (defScope s_law) fa (.ref c) A outer s H E).nox A2 outer2 s2 H2 E2 (sc__law 1) f2 c2) (bo_law 1) (t1 E2)) ∧ (∀ E2 : XK, Ed (K.withL J) (ecOf C 99) (fun cls d _ H => E2 cls d H) (t1 E2) (callE 2 fn_unrolled (consM (varM 1) (consM (conM .none) nilM)))) :=
      ⟨fun E2 => _, fun A2 outer2 s2 H2 E2 f2 c2 hr => (have tk := takes_of (X := LamX.lamCx (cxOf CX0 P w K.K mg base ["script", "frame", "k", "box", "program", "datum", "rows", "spot", "longer", "row", "value", "turn", "wrong", "at", "bent", "odd", "right", "works", "work", "told"] "law" (defScope s_law) fa (.ref c) A outer s H E).nox A2 outer2 s2 H2 E2 (sc__law 1) f2 c2) (E := E2) rfl rfl rfl rfl; (pe_dS D_unrolled (hr.mono (by omega)) tk (pa_cons (pv 1) (pa_cons pe_non pa_nil)))), fun E2 => (ed_callE (ea_cons ed_var (ea_cons ed_non ea_nil)))⟩
    obtain ⟨t2, hb2, eb2⟩ : ∃ t2 : XK → TE, (∀ (A2 : Around) (outer2 : List Env) (s2 : Shared) (H2 : Hp) (E2 : XK) (f2 c2 : Addr), Room 52 (A2.deeper (LamX.lamEnv (cxOf CX0 P w K.K mg base ["script", "frame", "k", "box", "program", "datum", "rows", "spot", "longer", "row", "value", "turn", "wrong", "at", "bent", "odd", "right", "works", "work", "told"] "law" (defScope s_law) fa (.ref c) A outer s H E).nox (sc__law 2) s2.heap.objs.size f2 c2)) → PE (LamX.lamCx (cxOf CX0 P w K.K mg base ["script", "frame", "k", "box", "program", "datum", "rows", "spot", "longer", "row", "value", "turn", "wrong", "at", "bent", "odd", "right", "works", "work", "told"] "law" (defScope s_law) fa (.ref c) A outer s H E).nox A2 outer2 s2 H2 E2 (sc__law 2) f2 c2) (bo_law 2) (t2 E2)) ∧ (∀ E2 : XK, Ed (K.withL J) (ecOf C 99) (fun cls d _ H => E2 cls d H) (t2 E2) (callE 1 fn_all_data (consM (slM (varM 1) noM (partM (conM (.int 4)))) nilM))) :=
      ⟨fun E2 => _, fun A2 outer2 s2 H2 E2 f2 c2 hr => (have tk := takes_of (X := LamX.lamCx (cxOf CX0 P w K.K mg base ["script", "frame", "k", "box", "program", "datum", "rows", "spot", "longer", "row", "value", "turn", "wrong", "at", "bent", "odd", "right", "works", "work", "told"] "law" (defScope s_law) fa (.ref c) A outer s H E).nox A2 outer2 s2 H2 E2 (sc__law 2) f2 c2) (E := E2) rfl rfl rfl rfl; (pe_dS D_all_data (hr.mono (by omega)) tk (pa_cons (pe_slice (sl_K K.K rfl) (pv 1) po_none (po_some pe_int)) pa_nil))), fun E2 => (ed_callE (ea_cons (ed_sl ed_var eb_no (eb_part ed_int)) ea_nil))⟩
    refine ⟨_, (pss_cons (ps_set (i := 1) sc_law.nd rfl (by first | exact Or.inl rfl | exact Or.inr rfl) (pe_tup (pa_cons pe_int (pa_cons pe_int (pa_cons pe_int (pa_cons (pe_tup pa_nil) (pa_cons pe_int pa_nil))))))) (pss_cons (ps_if (PW.pt (pw_or (pt_cmpR (op_neK (K.withL J).K rfl hr.units) (pe_ix (ix_K (K.withL J).K rfl) (pe_dS D_all_data (hr.mono (by omega)) takesF (pa_cons (pv 1) pa_nil)) pe_int (fun _ _ => rfl)) (pe_tup (pa_cons pe_int (pa_cons pe_int (pa_cons pe_int pa_nil)))) (nomark _)) (pw_or (pt_cmpR (op_neK (K.withL J).K rfl hr.units) (pe_callB (call_lenK (K.withL J).K rfl) (by rfl) T.b_len PySem.boot_len (pa_cons (pe_dS D_all_data (hr.mono (by omega)) takesF (pa_cons (pv 1) pa_nil)) pa_nil)) pe_int (nomark _)) (pw_or1 (pt_cmpR (op_neK (K.withL J).K rfl hr.units) (pe_dS D_unrolled (hr.mono (by omega)) takesF (pa_cons (pv 1) (pa_cons (pe_tup (pa_cons (pe_tup (pa_cons pe_str (pa_cons pe_int (pa_cons (pe_tup (pa_cons (pe_tup (pa_cons pe_str pa_nil)) pa_nil)) pa_nil)))) (pa_cons (pe_tup (pa_cons pe_str (pa_cons pe_int (pa_cons (pe_tup (pa_cons (pe_tup (pa_cons pe_str pa_nil)) pa_nil)) pa_nil)))) pa_nil))) pa_nil))) (pe_op (op_mulK (K.withL J).K rfl) (pe_tup (pa_cons (pe_tup (pa_cons pe_str pa_nil)) pa_nil)) pe_int) (nomark _)))))) (pss_one (ps_ret pe_bl)) pss_nil) (pss_cons (ps_for PassesOwn.never rfl (pi_range1 rfl T.b_range (pa_cons pe_int pa_nil)) (pg_name (i := 2) sc_law.nd rfl (by first | exact Or.inl rfl | exact Or.inr rfl)) (pss_cons (ps_set (i := 3) sc_law.nd rfl (by first | exact Or.inl rfl | exact Or.inr rfl) (pe_d D__law_box (hr.mono (by omega)) (pa_cons (pv 0) (pa_cons (pv 2) pa_nil)))) (pss_cons (ps_set (i := 1) sc_law.nd rfl (by first | exact Or.inl rfl | exact Or.inr rfl) (pe_d D__law_frame (hr.mono (by omega)) (pa_cons (pv 3) pa_nil))) (pss_cons (ps_par (i := 4) (j := 5) rfl sc_law.nd rfl rfl (by decide) (show List.lookup _ (defScope s_law).names = some NameKind.local by decide +kernel) (show List.lookup _ (defScope s_law).names = some NameKind.local by decide +kernel) (pa_cons (pe_d D__law_rows (hr.mono (by omega)) (pa_cons (pv 3) (pa_cons (pv 1) (pa_cons (pe_d D__law_take (hr.mono (by omega)) (pa_cons (pv 3) (pa_cons pe_int pa_nil))) (pa_cons pe_int pa_nil))))) (pa_cons (pe_d D__law_datum (hr.mono (by omega)) (pa_cons (pv 3) (pa_cons (pv 1) pa_nil))) pa_nil)) (by with_unfolding_all rfl)) (pss_cons (ps_if (PW.pt (pw_or (pt_cmpR (op_neK (K.withL J).K rfl hr.units) (pe_kwS (ks := ["value"]) (is := [0]) D_need_frame.ok (hr.mono (by omega)) rfl D_need_frame.g D_need_frame.kp KB_need_frame_value (fun σ => passAt takesF σ) (pk_cons (pv 1) pk_nil)) (pv 1) (nomark _)) (pw_or (pt_cmpR (op_neK (K.withL J).K rfl hr.units) (pe_kwS (ks := ["frame", "value"]) (is := [0, 1]) D_need_program.ok (hr.mono (by omega)) rfl D_need_program.g D_need_program.kp KB_need_program_frame_value (fun σ => passAt takesF σ) (pk_cons (pv 1) (pk_cons (pv 4) pk_nil))) (pv 4) (nomark _)) (pw_or1 (pt_cmpR (op_neK (K.withL J).K rfl hr.units) (pe_kwS (ks := ["frame", "value"]) (is := [0, 1]) D_need_datum.ok (hr.mono (by omega)) rfl D_need_datum.g D_need_datum.kp KB_need_datum_frame_value (fun σ => passAt takesF σ) (pk_cons (pv 1) (pk_cons (pv 5) pk_nil))) (pv 5) (nomark _)))))) (pss_one (ps_ret pe_bl)) pss_nil) (pss_cons (ps_set (i := 6) sc_law.nd rfl (by first | exact Or.inl rfl | exact Or.inr rfl) (pe_lst (pa_cons (pe_tup pa_nil) pa_nil))) (pss_cons (ps_for PassesOwn.never rfl (pi_range1 rfl T.b_range (pa_cons (pe_op (op_addK (K.withL J).K rfl) (pe_ix (ix_K (K.withL J).K rfl) (pv 1) pe_int (fun _ _ => rfl)) (pe_ix (ix_K (K.withL J).K rfl) (pv 1) pe_int (fun _ _ => rfl))) pa_nil)) (pg_name (i := 7) sc_law.nd rfl (by first | exact Or.inl rfl | exact Or.inr rfl)) (pss_cons (ps_set (i := 8) sc_law.nd rfl (by first | exact Or.inl rfl | exact Or.inr rfl) (pe_lst pa_nil)) (pss_cons (ps_for PassesOwn.never rfl (pi_seqK (K.withL J).K rfl (pv 6)) (pg_name (i := 9) sc_law.nd rfl (by first | exact Or.inl rfl | exact Or.inr rfl)) (pss_one (ps_expr (pe_bm PySem.F.plainAttrs_list PySem.F.slot_list_extend PySem.F.type_list_extend (mt_extendS (K.withL J).K rfl) (pv 8) (pa_cons (pe_lc (own := [("value", 10)]) rfl sc_law.nd (pi_range1 rfl T.b_range (pa_cons (pe_ix (ix_K (K.withL J).K rfl) (pv 1) pe_int (fun _ _ => rfl)) pa_nil)) (blkOk_by (N := ["script", "frame", "k", "box", "program", "datum", "rows", "spot", "longer", "row", "value", "turn", "wrong", "at", "bent", "odd", "right", "works", "work", "told"]) (sc := defScope s_law) (by decide +kernel)) (fun _ _ _ _ _ => (pg_name (i := 10) sc_law.nd rfl (by first | exact Or.inl rfl | exact Or.inr rfl))) (fun _ _ _ _ _ => pts_nil) (fun _ _ _ _ _ => (pe_op (op_addK (K.withL J).K rfl) (pv 9) (pe_tup (pa_cons (pv 10) pa_nil))))) pa_nil))))) (pss_one (ps_set (i := 6) sc_law.nd rfl (by first | exact Or.inl rfl | exact Or.inr rfl) (pv 8)))))) (pss_cons (ps_if (PW.pt (pw_or (pt_cmpR (op_neK (K.withL J).K rfl hr.units) (pe_kwS (ks := ["frame"]) (is := [0]) D_all_data.ok (hr.mono (by omega)) rfl D_all_data.g D_all_data.kp KB_all_data_frame (fun σ => passAt takesF σ) (pk_cons (pv 1) pk_nil)) (pe_callTy (call_tupleK (K.withL J).K rfl) (by rfl) T.b_tuple PyProof.Rows.boot_tuple (pa_cons (pv 6) pa_nil)) (nomark _)) (pw_or1 (pt_cmpR (op_neK (K.withL J).K rfl hr.units) (pe_kwS (ks := ["frame", "program"]) (is := [0, 1]) D_unrolled.ok (hr.mono (by omega)) rfl D_unrolled.g D_unrolled.kp KB_unrolled_frame_program (fun σ => passAt takesF σ) (pk_cons (pv 1) (pk_cons (pv 4) pk_nil))) (pe_callTy (call_tupleK (K.withL J).K rfl) (by rfl) T.b_tuple PyProof.Rows.boot_tuple (pa_cons (pe_d D__law_plain (hr.mono (by omega)) (pa_cons (pv 4) pa_nil)) pa_nil)) (nomark _))))) (pss_one (ps_ret pe_bl)) pss_nil) (pss_cons (ps_for PassesOwn.never rfl (pi_range1 rfl T.b_range (pa_cons pe_int pa_nil)) (pg_name (i := 11) sc_law.nd rfl (by first | exact Or.inl rfl | exact Or.inr rfl)) (pss_cons (ps_set (i := 12) sc_law.nd rfl (by first | exact Or.inl rfl | exact Or.inr rfl) (pe_d D__law_bent (hr.mono (by omega)) (pa_cons (pv 3) (pa_cons (pv 1) (pa_cons pe_int pa_nil))))) (pss_cons (ps_set (i := 13) sc_law.nd rfl (by first | exact Or.inl rfl | exact Or.inr rfl) (pe_d D__law_frame_due (hr.mono (by omega)) (pa_cons (pv 12) pa_nil))) (pss_cons (ps_if (pt_cmpR (op_neK (K.withL J).K rfl hr.units) (pe_told (k := 52) (T := (K.withL J).T) F__law_heard m__law_heard b__law_heard sc__law_heard rfl (.inl rfl) (fun cdg => gives__law_heard T rfl rfl) TBc rfl hTm hTu (hr.mono (by omega)) ⟨rfl, rfl, rfl, by decide +kernel, (by change ∀ y : Str × NameKind, y ∈ _ → y.2 = NameKind.free → List.lookup y.1 (defScope s_law).names = some NameKind.cell ∨ List.lookup y.1 (defScope s_law).names = some NameKind.free; decide +kernel)⟩ rfl (fun _ _ _ _ _ => rfl) (fun A outer s H E f2 c2 hr => have tk := takes_of (X := LamX.lamCx _ A outer s H E _ f2 c2) (E := E) rfl rfl rfl rfl; (pe_dS D_need_frame (hr.mono (by omega)) tk (pa_cons (pv 12) pa_nil)))) (pe_ifExp (pt_cmpR op_isN (pv 13) pe_non (nomark _)) (pe_tup (pa_cons pe_str (pa_cons (pv 12) pa_nil))) (pe_tup (pa_cons pe_str (pa_cons (pv 13) pa_nil)))) (nomark _)) (pss_one (ps_ret pe_bl)) pss_nil) (pss_cons (ps_set (i := 14) sc_law.nd rfl (by first | exact Or.inl rfl | exact Or.inr rfl) (pe_d D__law_bent (hr.mono (by omega)) (pa_cons (pv 3) (pa_cons (pv 4) (pa_cons pe_int pa_nil))))) (pss_cons (ps_set (i := 13) sc_law.nd rfl (by first | exact Or.inl rfl | exact Or.inr rfl) (pe_d D__law_due (hr.mono (by omega)) (pa_cons (pv 1) (pa_cons (pv 14) pa_nil)))) (pss_cons (ps_if (pt_cmpR (op_neK (K.withL J).K rfl hr.units) (pe_told (k := 52) (T := (K.withL J).T) F__law_heard m__law_heard b__law_heard sc__law_heard rfl (.inl rfl) (fun cdg => gives__law_heard T rfl rfl) TBc rfl hTm hTu (hr.mono (by omega)) ⟨rfl, rfl, rfl, by decide +kernel, (by change ∀ y : Str × NameKind, y ∈ _ → y.2 = NameKind.free → List.lookup y.1 (defScope s_law).names = some NameKind.cell ∨ List.lookup y.1 (defScope s_law).names = some NameKind.free; decide +kernel)⟩ rfl (fun _ _ _ _ _ => rfl) (fun A outer s H E f2 c2 hr => have tk := takes_of (X := LamX.lamCx _ A outer s H E _ f2 c2) (E := E) rfl rfl rfl rfl; (pe_dS D_need_program (hr.mono (by omega)) tk (pa_cons (pv 1) (pa_cons (pv 14) pa_nil))))) (pe_ifExp (pt_cmpR op_isN (pv 13) pe_non (nomark _)) (pe_tup (pa_cons pe_str (pa_cons (pv 14) pa_nil))) (pe_tup (pa_cons pe_str (pa_cons (pv 13) pa_nil)))) (nomark _)) (pss_one (ps_ret pe_bl)) pss_nil) (pss_cons (ps_set (i := 15) sc_law.nd rfl (by first | exact Or.inl rfl | exact Or.inr rfl) (pe_d D__law_bent (hr.mono (by omega)) (pa_cons (pv 3) (pa_cons (pv 5) (pa_cons pe_int pa_nil))))) (pss_cons (ps_set (i := 16) sc_law.nd rfl (by first | exact Or.inl rfl | exact Or.inr rfl) (pe_d D__law_are_below (hr.mono (by omega)) (pa_cons (pv 15) (pa_cons (pe_op (op_addK (K.withL J).K rfl) (pe_ix (ix_K (K.withL J).K rfl) (pv 1) pe_int (fun _ _ => rfl)) (pe_ix (ix_K (K.withL J).K rfl) (pv 1) pe_int (fun _ _ => rfl))) (pa_cons (pe_ix (ix_K (K.withL J).K rfl) (pv 1) pe_int (fun _ _ => rfl)) pa_nil))))) (pss_one (ps_if (pt_cmpR (op_neK (K.withL J).K rfl hr.units) (pe_told (k := 52) (T := (K.withL J).T) F__law_heard m__law_heard b__law_heard sc__law_heard rfl (.inl rfl) (fun cdg => gives__law_heard T rfl rfl) TBc rfl hTm hTu (hr.mono (by omega)) ⟨rfl, rfl, rfl, by decide +kernel, (by change ∀ y : Str × NameKind, y ∈ _ → y.2 = NameKind.free → List.lookup y.1 (defScope s_law).names = some NameKind.cell ∨ List.lookup y.1 (defScope s_law).names = some NameKind.free; decide +kernel)⟩ rfl (fun _ _ _ _ _ => rfl) (fun A outer s H E f2 c2 hr => have tk := takes_of (X := LamX.lamCx _ A outer s H E _ f2 c2) (E := E) rfl rfl rfl rfl; (pe_dS D_need_datum (hr.mono (by omega)) tk (pa_cons (pv 1) (pa_cons (pv 15) pa_nil))))) (pe_ifExp (pt_truK (K.withL J).K rfl (pv 16)) (pe_tup (pa_cons pe_str (pa_cons (pv 15) pa_nil))) (pe_tup (pa_cons pe_str (pa_cons (pe_un un_neg pe_int) pa_nil)))) (nomark _)) (pss_one (ps_ret pe_bl)) pss_nil))))))))))) (pss_cons (ps_set (i := 17) sc_law.nd rfl (by first | exact Or.inl rfl | exact Or.inr rfl) (pe_lst (pa_cons (pe_tup (pa_cons (PLam.pe_lamV (T := (K.withL J).T) TBc rfl hTm hTu ⟨rfl, rfl, rfl, by decide +kernel, (by change ∀ y : Str × NameKind, y ∈ _ → y.2 = NameKind.free → List.lookup y.1 (defScope s_law).names = some NameKind.cell ∨ List.lookup y.1 (defScope s_law).names = some NameKind.free; decide +kernel)⟩ rfl) (pa_cons (pe_tup (pa_cons pe_str (pa_cons (pe_un un_neg pe_int) pa_nil))) pa_nil))) pa_nil))) (pss_cons (ps_expr (pe_bm PySem.F.plainAttrs_list PySem.F.slot_list_append PySem.F.type_list_append mt_append (pv 17) (pa_cons (pe_tup (pa_cons (PLam.pe_lamV (T := (K.withL J).T) TBc rfl hTm hTu ⟨rfl, rfl, rfl, by decide +kernel, (by change ∀ y : Str × NameKind, y ∈ _ → y.2 = NameKind.free → List.lookup y.1 (defScope s_law).names = some NameKind.cell ∨ List.lookup y.1 (defScope s_law).names = some NameKind.free; decide +kernel)⟩ rfl) (pa_cons (pe_tup (pa_cons pe_str (pa_cons (pe_un un_neg pe_int) pa_nil))) pa_nil))) pa_nil))) (pss_cons (ps_expr (pe_bm PySem.F.plainAttrs_list PySem.F.slot_list_append PySem.F.type_list_append mt_append (pv 17) (pa_cons (pe_tup (pa_cons (PLam.pe_lamV (T := (K.withL J).T) TBc rfl hTm hTu ⟨rfl, rfl, rfl, by decide +kernel, (by change ∀ y : Str × NameKind, y ∈ _ → y.2 = NameKind.free → List.lookup y.1 (defScope s_law).names = some NameKind.cell ∨ List.lookup y.1 (defScope s_law).names = some NameKind.free; decide +kernel)⟩ rfl) (pa_cons (pe_tup (pa_cons pe_str (pa_cons (pe_un un_neg pe_int) pa_nil))) pa_nil))) pa_nil))) (pss_one (ps_if (pt_cmpR (op_neK (K.withL J).K rfl hr.units) (PLam.pe_lcI (own := [("work", 18), ("told", 19)]) rfl sc_law.nd (pi_seqK (K.withL J).K rfl (pv 17)) (blkOk_by (N := ["script", "frame", "k", "box", "program", "datum", "rows", "spot", "longer", "row", "value", "turn", "wrong", "at", "bent", "odd", "right", "works", "work", "told"]) (sc := defScope s_law) (by decide +kernel)) (fun _ _ _ _ _ => (pg_or (pg_tupK (n := 2) (K.withL J).K rfl rfl (pgs_cons (pg_name (i := 18) sc_law.nd rfl (by first | exact Or.inl rfl | exact Or.inr rfl)) (pgs_cons (pg_name (i := 19) sc_law.nd rfl (by first | exact Or.inl rfl | exact Or.inr rfl)) pgs_nil))) (pg_unlK (n := 2) (K.withL J).K rfl rfl (pgs_cons (pg_name (i := 18) sc_law.nd rfl (by first | exact Or.inl rfl | exact Or.inr rfl)) (pgs_cons (pg_name (i := 19) sc_law.nd rfl (by first | exact Or.inl rfl | exact Or.inr rfl)) pgs_nil))))) (fun pins s σ τ H C cl fp I3 hfp hw => pts_one (pt_cmpR (op_neK (K.withL J).K rfl hr.units) (pe_heardK (n := 3) (k := 52) (pa := pa_law) (bo := bo_law) (sc := sc__law) (t := (fun j => ([t0, t1, t2] : List (XK → TE)).getD j (fun _ => tC .non))) I3 hfp hw (by change ∀ i ∈ ([18, 19] : List Nat), ∀ x, (["script", "frame", "k", "box", "program", "datum", "rows", "spot", "longer", "row", "value", "turn", "wrong", "at", "bent", "odd", "right", "works", "work", "told"] : List Str)[i]? = some x → ¬ Vis (defScope s_law) x; intro i hi x hx; simp only [List.mem_cons, List.not_mem_nil, or_false] at hi; rcases hi with rfl | rfl <;> (cases hx; unfold Vis; decide +kernel)) F__law_heard m__law_heard b__law_heard sc__law_heard rfl (.inl rfl) (fun cdg => gives__law_heard T rfl rfl) (pv 18) (hr.mono (by omega)) (fun j hj => match j, hj with | 0, _ => ⟨rfl, rfl, rfl, by decide +kernel, (by change ∀ y : Str × NameKind, y ∈ _ → y.2 = NameKind.free → List.lookup y.1 (defScope s_law).names = some NameKind.cell ∨ List.lookup y.1 (defScope s_law).names = some NameKind.free; decide +kernel)⟩ | 1, _ => ⟨rfl, rfl, rfl, by decide +kernel, (by change ∀ y : Str × NameKind, y ∈ _ → y.2 = NameKind.free → List.lookup y.1 (defScope s_law).names = some NameKind.cell ∨ List.lookup y.1 (defScope s_law).names = some NameKind.free; decide +kernel)⟩ | 2, _ => ⟨rfl, rfl, rfl, by decide +kernel, (by change ∀ y : Str × NameKind, y ∈ _ → y.2 = NameKind.free → List.lookup y.1 (defScope s_law).names = some NameKind.cell ∨ List.lookup y.1 (defScope s_law).names = some NameKind.free; decide +kernel)⟩ | n + 3, h => absurd (show n + 3 < 3 from h) (by omega)) (fun j hj => match j, hj with | 0, _ => fun _ _ _ _ _ => rfl | 1, _ => fun _ _ _ _ _ => rfl | 2, _ => fun _ _ _ _ _ => rfl | n + 3, h => absurd (show n + 3 < 3 from h) (by omega)) (fun j hj => match j, hj with | 0, _ => hb0 | 1, _ => hb1 | 2, _ => hb2 | n + 3, h => absurd (show n + 3 < 3 from h) (by omega))) (pv 19) (nomark _))) (fun _ _ _ _ _ => (pv 18))) (pe_lst pa_nil) (nomark _)) (pss_one (ps_ret pe_bl)) pss_nil)))))))))))))) (pss_one (ps_ret pe_bl))))), ?_⟩
    exact body_Q (K := K.withL J) (N := ["script", "frame", "k", "box", "program", "datum", "rows", "spot", "longer", "row", "value", "turn", "wrong", "at", "bent", "odd", "right", "works", "work", "told"]) (ec := ecOf C 99) (W := fun _ _ _ _ => False) (sd_seq (sd_asg (ed_tup (ea_cons ed_int (ea_cons ed_int (ea_cons ed_int (ea_cons (ed_tup ea_nil) (ea_cons ed_int ea_nil))))))) (sd_seq (sd_if (et_or (et_test (ed_op opd_neS (ed_op opd_ix (ed_callE (ea_cons ed_var ea_nil)) ed_int) (ed_tup (ea_cons ed_int (ea_cons ed_int (ea_cons ed_int ea_nil)))))) (et_or (et_test (ed_op opd_neS (ed_ca cad_len (ea_cons (ed_callE (ea_cons ed_var ea_nil)) ea_nil)) ed_int)) (et_test (ed_op opd_neS (ed_callE (ea_cons ed_var (ea_cons (ed_tup (ea_cons (ed_tup (ea_cons ed_str (ea_cons ed_int (ea_cons (ed_tup (ea_cons (ed_tup (ea_cons ed_str ea_nil)) ea_nil)) ea_nil)))) (ea_cons (ed_tup (ea_cons ed_str (ea_cons ed_int (ea_cons (ed_tup (ea_cons (ed_tup (ea_cons ed_str ea_nil)) ea_nil)) ea_nil)))) ea_nil))) ea_nil))) (ed_op opd_mul (ed_tup (ea_cons (ed_tup (ea_cons ed_str ea_nil)) ea_nil)) ed_int))))) (sd_ret ed_bl) sd_next) (sd_seq (sd_for (id_rng1M (ea_cons ed_int ea_nil)) gd_name (sd_seq (sd_asgO (eo_call (ea_cons ed_var (ea_cons ed_var ea_nil)))) (sd_seq (sd_asg (ed_callB ea_nil)) (sd_seq (sd_par (ea_cons (ed_callB (ea_cons ed_var (ea_cons (ed_callB (ea_cons ed_int ea_nil)) (ea_cons ed_int ea_nil)))) (ea_cons (ed_callB (ea_cons ed_var ea_nil)) ea_nil))) (sd_seq (sd_if (et_or (et_test (ed_op opd_neS (ed_kwE (ea_cons ed_var ea_nil)) ed_var)) (et_or (et_test (ed_op opd_neS (ed_kwE (ea_cons ed_var (ea_cons ed_var ea_nil))) ed_var)) (et_test (ed_op opd_neS (ed_kwE (ea_cons ed_var (ea_cons ed_var ea_nil))) ed_var)))) (sd_ret ed_bl) sd_next) (sd_seq (sd_asg (Eo.ed (eo_lst (ea_cons (ed_tup ea_nil) ea_nil)))) (sd_seq (sd_for (id_rng1M (ea_cons (ed_op opd_add (ed_op opd_ix ed_var ed_int) (ed_op opd_ix ed_var ed_int)) ea_nil)) gd_name (sd_seq (sd_asgO (eo_lst ea_nil)) (sd_seq (sd_for (id_seq ed_var) gd_name (sd_ext (Eo.ed (eo_lc (id_rng1M (ea_cons (ed_op opd_ix ed_var ed_int) ea_nil)) gd_name (by decide) et_yes (ed_op opd_add ed_var (ed_tup (ea_cons ed_var ea_nil))))))) (sd_asg ed_let)))) (sd_seq (sd_if (et_or (et_test (ed_op opd_neS (ed_kwE (ea_cons ed_var ea_nil)) (ed_ca cad_tuple (ea_cons ed_var ea_nil)))) (et_test (ed_op opd_neS (ed_kwE (ea_cons ed_var (ea_cons ed_var ea_nil))) (ed_ca cad_tuple (ea_cons (ed_call (ea_cons ed_var ea_nil)) ea_nil))))) (sd_ret ed_bl) sd_next) (sd_seq (sd_for (id_rng1M (ea_cons ed_int ea_nil)) gd_name (sd_seq (sd_asg (ed_callB (ea_cons ed_var (ea_cons ed_int ea_nil)))) (sd_seq (sd_asg (ed_call (ea_cons ed_var ea_nil))) (sd_seq (sd_if (et_test (ed_op opd_neS (ed_toldG (fun E => (ed_callE (ea_cons ed_var ea_nil))) (hres__law_heard T) wrap_pair) (ed_if (et_test (ed_op opd_is ed_var ed_non)) (ed_tup (ea_cons ed_str (ea_cons ed_var ea_nil))) (ed_tup (ea_cons ed_str (ea_cons ed_var ea_nil)))))) (sd_ret ed_bl) sd_next) (sd_seq (sd_asg (ed_callB (ea_cons ed_var (ea_cons ed_int ea_nil)))) (sd_seq (sd_asg (ed_call (ea_cons ed_var (ea_cons ed_var ea_nil)))) (sd_seq (sd_if (et_test (ed_op opd_neS (ed_toldG (fun E => (ed_callE (ea_cons ed_var (ea_cons ed_var ea_nil)))) (hres__law_heard T) wrap_pair) (ed_if (et_test (ed_op opd_is ed_var ed_non)) (ed_tup (ea_cons ed_str (ea_cons ed_var ea_nil))) (ed_tup (ea_cons ed_str (ea_cons ed_var ea_nil)))))) (sd_ret ed_bl) sd_next) (sd_seq (sd_asg (ed_callB (ea_cons ed_var (ea_cons ed_int ea_nil)))) (sd_seq (sd_asg (ed_call (ea_cons ed_var (ea_cons (ed_op opd_add (ed_op opd_ix ed_var ed_int) (ed_op opd_ix ed_var ed_int)) (ea_cons (ed_op opd_ix ed_var ed_int) ea_nil))))) (sd_if (et_test (ed_op opd_neS (ed_toldG (fun E => (ed_callE (ea_cons ed_var (ea_cons ed_var ea_nil)))) (hres__law_heard T) wrap_pair) (ed_if (et_tru ed_var) (ed_tup (ea_cons ed_str (ea_cons ed_var ea_nil))) (ed_tup (ea_cons ed_str (ea_cons (ed_un und_neg ed_int) ea_nil)))))) (sd_ret ed_bl) sd_next)))))))))) (sd_seq (sd_asgO (eo_lst (ea_cons (ed_tup (ea_cons (ed_lamV (j := 0) (show 0 < 3 from by decide) (fun _ _ => rfl)) (ea_cons (ed_tup (ea_cons ed_str (ea_cons (ed_un und_neg ed_int) ea_nil))) ea_nil))) ea_nil))) (sd_seq (sd_app (ed_tup (ea_cons (ed_lamV (j := 1) (show 1 < 3 from by decide) (fun _ _ => rfl)) (ea_cons (ed_tup (ea_cons ed_str (ea_cons (ed_un und_neg ed_int) ea_nil))) ea_nil)))) (sd_seq (sd_app (ed_tup (ea_cons (ed_lamV (j := 2) (show 2 < 3 from by decide) (fun _ _ => rfl)) (ea_cons (ed_tup (ea_cons ed_str (ea_cons (ed_un und_neg ed_int) ea_nil))) ea_nil)))) (sd_if (et_test (ed_op opd_neS (Eo.ed (eo_lc (id_seq ed_let) (gd_seq (gds_cons gd_name (gds_cons gd_name gds_nil)) (.cons (.cons .nil))) (by decide) (et_test (ed_op opd_neS (ed_heardG ed_var (fun j hj => match j, hj with | 0, _ => eb0 | 1, _ => eb1 | 2, _ => eb2 | n + 3, h => absurd (show n + 3 < 3 from h) (by omega)) (hres__law_heard T) wrap_pair) ed_var)) ed_var)) (Eo.ed (eo_lst ea_nil)))) (sd_ret ed_bl) sd_next))))))))))))) (sd_ret ed_bl)))) h
  obtain ⟨t, h1, h2⟩ := main
  exact ⟨t, h1.nox, h2⟩
end
end K06

namespace K06
open PySem L2 Evl Pd
noncomputable def F_is_integer : FnQ := denQ 1 (den_is_integer)
noncomputable def F_is_below : FnQ := denQ 2 (den_is_below F_is_integer)
noncomputable def F_is_tuple_of : FnQ := denQ 2 (den_is_tuple_of)
noncomputable def F_is_row_of_values : FnQ := denQ 3 (den_is_row_of_values F_is_tuple_of Qt.F_are_below)
noncomputable def F_is_size : FnQ := denQ 1 (den_is_size F_is_integer)
noncomputable def F_is_table : FnQ := denQ 2 (den_is_table F_is_row_of_values)
noncomputable def F_are_tables : FnQ := denQ 3 (den_are_tables F_is_table)
noncomputable def F_need_frame : FnE := denE 6 (den_need_frame F_is_tuple_of F_is_size F_are_tables F_is_below)
noncomputable def F_spots_many : FnQ := denQ 1 (den_spots_many)
noncomputable def F_all_data : FnE := denE 5 (den_all_data F_need_frame F_spots_many)
noncomputable def F_is_datum : FnQ := denQ 2 (den_is_datum F_is_row_of_values F_spots_many)
noncomputable def F_need_datum : FnE := denE 2 (den_need_datum F_need_frame F_is_datum)
noncomputable def F_is_silent_row : FnQ := denQ 2 (den_is_silent_row F_is_below Qt.F_are_below)
noncomputable def G_are_rows (fh : FnQ) : FnQ := denQ 3 (den_are_rows fh)
noncomputable def F_is_row : Nat → FnQ
  | 0 => fun _ => none
  | n + 1 => denQ 2 (den_is_row F_is_silent_row F_is_below (G_are_rows (F_is_row n)))
noncomputable def F_are_rows (n : Nat) : FnQ := G_are_rows (F_is_row n)
noncomputable def F_need_program : FnE := denE 4 (den_need_program F_need_frame (F_is_row 8))
noncomputable def F_unrolled_rows : Nat → FnQ
  | 0 => fun _ => none
  | n + 1 => denQ 3 (den_unrolled_rows (F_unrolled_rows n))
noncomputable def F_unrolled : FnE := denE 2 (den_unrolled F_need_program (F_unrolled_rows 8))
noncomputable def F__law_box : FnN := denN 3 (den__law_box)
noncomputable def F__law_take : FnB := denB 4 (den__law_take)
noncomputable def F__law_pick : FnB := denB 2 (den__law_pick F__law_take)
noncomputable def F__law_frame : FnB := denB 5 (den__law_frame F__law_pick F__law_take)
noncomputable def F__law_rows : Nat → FnB
  | 0 => fun _ _ => none
  | n + 1 => denB 9 (den__law_rows F__law_take (F__law_rows n))
noncomputable def F__law_datum : FnB := denB 3 (den__law_datum F__law_take)
noncomputable def F__law_plain : Nat → FnQ
  | 0 => fun _ => none
  | n + 1 => denQ 4 (den__law_plain (F__law_plain n))
noncomputable def F__law_is_below : FnQ := denQ 2 (den__law_is_below)
noncomputable def F__law_are_below : FnQ := denQ 4 (den__law_are_below F__law_is_below)
noncomputable def F__law_frame_due : FnQ := denQ 2 (den__law_frame_due F__law_is_below F__law_are_below)
noncomputable def G__law_due (fh : FnQ) : FnQ := denQ 5 (den__law_due fh)
noncomputable def F__law_is_row : Nat → FnQ
  | 0 => fun _ => none
  | n + 1 => denQ 2 (den__law_is_row F__law_is_below F__law_are_below (G__law_due (F__law_is_row n)))
noncomputable def F__law_due (n : Nat) : FnQ := G__law_due (F__law_is_row n)
noncomputable def F__law_bent : Nat → FnB
  | 0 => fun _ _ => none
  | n + 1 => denB 4 (den__law_bent F__law_pick F__law_take (F__law_bent n))
end K06

/-! loops and comprehensions over rows: plain mathematics -/
namespace Pd
open PySem L2 Evl
section
variable {tg : DG} {body : DS} {tt : DB} {e : DE} {vs : List Nat}
theorem loop_nil {ρ : Rho} : loopS tg body [] ρ = some (.nx ρ) := rfl
theorem loop_nx {d : PyData} {ds : List PyData} {ρ ρ1 ρ2 : Rho} (h1 : tg d ρ = some ρ1) (h2 : body ρ1 = some (.nx ρ2)) : loopS tg body (d :: ds) ρ = loopS tg body ds ρ2 := by
  show (match tg d ρ with | none => none | some ρ1 => _) = _
  rw [h1]
  show (match body ρ1 with | some (.nx ρ2) => _ | some (.ct ρ2) => _ | some (.bk ρ2) => _ | x => _) = _
  rw [h2]
theorem loop_bk {d : PyData} {ds : List PyData} {ρ ρ1 ρ2 : Rho} (h1 : tg d ρ = some ρ1) (h2 : body ρ1 = some (.bk ρ2)) : loopS tg body (d :: ds) ρ = some (.nx ρ2) := by
  show (match tg d ρ with | none => none | some ρ1 => _) = _
  rw [h1]
  show (match body ρ1 with | some (.nx ρ2) => _ | some (.ct ρ2) => _ | some (.bk ρ2) => _ | x => _) = _
  rw [h2]
theorem loop_rt {d r : PyData} {ds : List PyData} {ρ ρ1 ρ2 : Rho} (h1 : tg d ρ = some ρ1) (h2 : body ρ1 = some (.rt r ρ2)) : loopS tg body (d :: ds) ρ = some (.rt r ρ2) := by
  show (match tg d ρ with | none => none | some ρ1 => _) = _
  rw [h1]
  show (match body ρ1 with | some (.nx ρ2) => _ | some (.ct ρ2) => _ | some (.bk ρ2) => _ | x => _) = _
  rw [h2]
/-- a loop that runs through: R of what is done, what is left, the slots -/
theorem loop_pre {α : Type} (enc : α → PyData) (R : List α → List α → Rho → Prop) : ∀ (pre xs : List α) (ρ : Rho), R pre xs ρ →
    (∀ (pre : List α) (x : α) (post : List α) (ρ : Rho), R pre (x :: post) ρ → ∃ ρ1 ρ2, tg (enc x) ρ = some ρ1 ∧ body ρ1 = some (.nx ρ2) ∧ R (pre ++ [x]) post ρ2) →
    ∃ ρ', loopS tg body (xs.map enc) ρ = some (.nx ρ') ∧ R (pre ++ xs) [] ρ'
  | pre, [], ρ, h, _ => ⟨ρ, rfl, by rw [List.append_nil]; exact h⟩
  | pre, x :: xs, ρ, h, st => by
    obtain ⟨ρ1, ρ2, h1, h2, h3⟩ := st pre x xs ρ h
    obtain ⟨ρ', h4, h5⟩ := loop_pre enc R (pre ++ [x]) xs ρ2 h3 st
    rw [List.map_cons, loop_nx h1 h2]
    exact ⟨ρ', h4, by rw [List.append_assoc] at h5; exact h5⟩
/-- a loop over so many things that do not matter -/
theorem loop_num (tot : Nat) (R : Nat → Rho → Prop) (st : ∀ (i : Nat) (d : PyData) (ρ : Rho), i < tot → R i ρ → ∃ ρ1 ρ2, tg d ρ = some ρ1 ∧ body ρ1 = some (.nx ρ2) ∧ R (i + 1) ρ2) : ∀ (n i : Nat) (ρ : Rho), i + n = tot → R i ρ →
    ∀ ds : List PyData, ds.length = n → ∃ ρ', loopS tg body ds ρ = some (.nx ρ') ∧ R tot ρ'
  | 0, i, ρ, hi, h, ds, hl => by
    rw [List.length_eq_zero_iff.mp hl]
    rw [Nat.add_zero] at hi
    subst hi
    exact ⟨ρ, rfl, h⟩
  | n + 1, i, ρ, hi, h, ds, hl => by
    cases ds with
    | nil => cases hl
    | cons d ds =>
      obtain ⟨ρ1, ρ2, h1, h2, h3⟩ := st i d ρ (by omega) h
      obtain ⟨ρ', h4, h5⟩ := loop_num tot R st n (i + 1) ρ2 (by omega) h3 ds (by simpa using hl)
      rw [loop_nx h1 h2]
      exact ⟨ρ', h4, h5⟩
/-- a comprehension that changes the slots: R of how many, what is made, the slots -/
theorem lc_pre {α : Type} (enc : α → PyData) (R : List α → List PyData → Rho → Prop) : ∀ (pre xs : List α) (acc : List PyData) (ρ : Rho), R pre acc ρ → acc.length + xs.length ≤ 100000 →
    (∀ (pre : List α) (x : α) (acc : List PyData) (ρ : Rho), x ∈ xs → R pre acc ρ → ∃ ρ1 ρ2 y ρ3, tg (enc x) ρ = some ρ1 ∧ tt ρ1 = some (.ok true ρ2) ∧ e ρ2 = some (.ok y ρ3) ∧ R (pre ++ [x]) (acc ++ [y]) (wipeR ρ3 vs)) →
    ∃ out ρ', lcL tg tt e vs (xs.map enc) acc ρ = some (out, ρ') ∧ R (pre ++ xs) out ρ'
  | pre, [], acc, ρ, h, _, _ => ⟨acc, ρ, rfl, by rw [List.append_nil]; exact h⟩
  | pre, x :: xs, acc, ρ, h, hl, st => by
    obtain ⟨ρ1, ρ2, y, ρ3, h1, h2, h3, h4⟩ := st pre x acc ρ List.mem_cons_self h
    rw [List.length_cons] at hl
    obtain ⟨out, ρ', h5, h6⟩ := lc_pre enc R (pre ++ [x]) xs (acc ++ [y]) (wipeR ρ3 vs) h4 (by rw [List.length_append, List.length_singleton]; omega) (fun pre z acc ρ hz => st pre z acc ρ (List.mem_cons_of_mem _ hz))
    refine ⟨out, ρ', ?_, by rw [List.append_assoc] at h6; exact h6⟩
    rw [List.map_cons, lcL, h1]
    show bnd0 (tt ρ1) _ = _
    rw [h2, bnd0_ok, if_pos rfl, h3, bnd0_ok, if_pos (by omega), h5]
/-- a comprehension that leaves the slots as they are -/
theorem lc_map {α : Type} (enc : α → PyData) (g : α → PyData) (ρ0 : Rho) : ∀ (xs : List α) (acc : List PyData), acc.length + xs.length ≤ 100000 →
    (∀ x ∈ xs, ∃ ρ1 ρ2 ρ3, tg (enc x) ρ0 = some ρ1 ∧ tt ρ1 = some (.ok true ρ2) ∧ e ρ2 = some (.ok (g x) ρ3) ∧ wipeR ρ3 vs = ρ0) →
    lcL tg tt e vs (xs.map enc) acc ρ0 = some (acc ++ xs.map g, ρ0)
  | [], acc, _, _ => by rw [List.map_nil, List.map_nil, List.append_nil]; rfl
  | x :: xs, acc, hl, st => by
    obtain ⟨ρ1, ρ2, ρ3, h1, h2, h3, h4⟩ := st x List.mem_cons_self
    rw [List.length_cons] at hl
    have ih := lc_map enc g ρ0 xs (acc ++ [g x]) (by rw [List.length_append, List.length_singleton]; omega) (fun z hz => st z (List.mem_cons_of_mem _ hz))
    rw [List.map_cons, lcL, h1]
    show bnd0 (tt ρ1) _ = _
    rw [h2, bnd0_ok, if_pos rfl, h3, bnd0_ok, if_pos (by omega), h4, ih, List.append_assoc]
    rfl
end
theorem rangeD_length : ∀ (lo : Int) (n : Nat), (rangeD lo n).length = n := fun lo n => by simp [rangeD]
theorem bools_map {α : Type} (f : α → Bool) : ∀ ds : List α, boolsD (ds.map fun d => PyData.bool (f d)) = some (ds.map f)
  | [] => rfl
  | d :: ds => by
    show (boolsD _).map _ = _
    rw [bools_map f ds]
    rfl
theorem all_map {α : Type} (f : α → Bool) (ds : List α) : (ds.map f).all id = ds.all f := by
  induction ds with
  | nil => rfl
  | cons d ds ih => rw [List.map_cons, List.all_cons, List.all_cons, ih]; rfl
theorem enumD_map {α : Type} (enc : α → PyData) : ∀ (xs : List α) (k : Nat), enumD k (xs.map enc) = (xs.zipIdx k).map fun p => PyData.tuple [.int (p.2 : Int), enc p.1]
  | [], _ => rfl
  | x :: xs, k => by
    rw [List.map_cons, List.zipIdx_cons, List.map_cons, ← enumD_map enc xs (k + 1)]
    rfl
end Pd
namespace Pd
open PySem L2 Evl
theorem cut_drop (ds : List PyData) (k : Nat) (h : k ≤ ds.length) : cutD ds (some (k : Int)) none = ds.drop k := by
  unfold cutD
  rw [HT.sIx_nat, HT.sIx_none, Nat.min_eq_left h]
  rw [List.take_of_length_le (by rw [List.length_drop]; omega)]
theorem cut_take (ds : List PyData) (k : Nat) : cutD ds none (some (k : Int)) = ds.take k := by
  unfold cutD
  rw [HT.sIx_nat, HT.sIx_none, Nat.sub_zero, List.drop_zero]
  by_cases h : k ≤ ds.length
  · rw [Nat.min_eq_left h]
  · rw [Nat.min_eq_right (by omega), List.take_length, List.take_of_length_le (by omega)]
@[simp] theorem cut2 (a b : PyData) (ds : List PyData) : cutD (a :: b :: ds) (some 2) none = ds := cut_drop (a :: b :: ds) 2 (by simp)
@[simp] theorem cut1 (a : PyData) (ds : List PyData) : cutD (a :: ds) (some 1) none = ds := cut_drop (a :: ds) 1 (by simp)
end Pd
namespace Pd
open PySem L2 Evl
/-- what comes first, a loop over a row, what comes then -/
theorem for_run {β α : Type} {A Rst body : DS} {it : DL} {tg : DG} {ρ0 ρ1 ρ2 : Rho} {out : Oc → Option β} {r : β} (enc : α → PyData) (xs : List α) (R : List α → List α → Rho → Prop)
    (h1 : A ρ0 = some (.nx ρ1)) (h2 : it ρ1 = some (.ok (xs.map enc) ρ2)) (h3 : R [] xs ρ2)
    (h4 : ∀ (pre : List α) (x : α) (post : List α) (ρ : Rho), R pre (x :: post) ρ → ∃ ρ1 ρ2, tg (enc x) ρ = some ρ1 ∧ body ρ1 = some (.nx ρ2) ∧ R (pre ++ [x]) post ρ2)
    (h5 : ∀ ρ, R xs [] ρ → (Rst ρ).bind out = some r) : ((seqS A (seqS (forS it tg body) Rst)) ρ0).bind out = some r := by
  obtain ⟨ρ', h6, h7⟩ := loop_pre (tg := tg) (body := body) enc R [] xs ρ2 h3 h4
  have e := h5 ρ' h7
  have e1 : (seqS (forS it tg body) Rst) ρ1 = Rst ρ' := by
    show (match forS it tg body ρ1 with | some (.nx ρ1) => Rst ρ1 | x => x) = _
    have : forS it tg body ρ1 = some (.nx ρ') := by
      show bndS (it ρ1) _ = _
      rw [h2]
      exact h6
    rw [this]
  have e2 : (seqS A (seqS (forS it tg body) Rst)) ρ0 = Rst ρ' := by
    show (match A ρ0 with | some (.nx ρ1) => (seqS (forS it tg body) Rst) ρ1 | x => x) = _
    rw [h1]
    exact e1
  rw [e2]
  exact e
/-- a loop alone, as a statement -/
theorem for_st {α : Type} {body : DS} {it : DL} {tg : DG} {ρ1 ρ2 : Rho} (enc : α → PyData) (xs : List α) (R : List α → List α → Rho → Prop)
    (h2 : it ρ1 = some (.ok (xs.map enc) ρ2)) (h3 : R [] xs ρ2)
    (h4 : ∀ (pre : List α) (x : α) (post : List α) (ρ : Rho), R pre (x :: post) ρ → ∃ ρ1 ρ2, tg (enc x) ρ = some ρ1 ∧ body ρ1 = some (.nx ρ2) ∧ R (pre ++ [x]) post ρ2) :
    ∃ ρ', forS it tg body ρ1 = some (.nx ρ') ∧ R xs [] ρ' := by
  obtain ⟨ρ', h6, h7⟩ := loop_pre (tg := tg) (body := body) enc R [] xs ρ2 h3 h4
  refine ⟨ρ', ?_, h7⟩
  show bndS (it ρ1) _ = _
  rw [h2]
  exact h6
end Pd
namespace Pd
open PySem L2 Evl
theorem for_num {body : DS} {it : DL} {tg : DG} {ρ1 ρ2 : Rho} {ds : List PyData} (tot : Nat) (R : Nat → Rho → Prop) (h2 : it ρ1 = some (.ok ds ρ2)) (hl : ds.length = tot) (h3 : R 0 ρ2)
    (st : ∀ (i : Nat) (d : PyData) (ρ : Rho), i < tot → R i ρ → ∃ ρ1 ρ2, tg d ρ = some ρ1 ∧ body ρ1 = some (.nx ρ2) ∧ R (i + 1) ρ2) :
    ∃ ρ', forS it tg body ρ1 = some (.nx ρ') ∧ R tot ρ' := by
  obtain ⟨ρ', h6, h7⟩ := loop_num (tg := tg) (body := body) tot R st tot 0 ρ2 (by omega) h3 ds hl
  refine ⟨ρ', ?_, h7⟩
  show bndS (it ρ1) _ = _
  rw [h2]
  exact h6
theorem ifS_true {c : DB} {f g : DS} {ρ ρ' : Rho} (h : c ρ = some (.ok true ρ')) : ifS c f g ρ = f ρ' := by
  show bndS (c ρ) _ = _
  rw [h]
  rfl
theorem ifS_false {c : DB} {f g : DS} {ρ ρ' : Rho} (h : c ρ = some (.ok false ρ')) : ifS c f g ρ = g ρ' := by
  show bndS (c ρ) _ = _
  rw [h]
  rfl
theorem seqS_nx {f g : DS} {ρ ρ' : Rho} (h : f ρ = some (.nx ρ')) : seqS f g ρ = g ρ' := by
  show (match f ρ with | some (.nx ρ1) => g ρ1 | x => x) = _
  rw [h]
theorem step_of {tg : DG} {body : DS} {d : PyData} {ρ ρ1 : Rho} {R : Rho → Prop} (h : tg d ρ = some ρ1) (hb : ∃ ρ2, body ρ1 = some (.nx ρ2) ∧ R ρ2) : ∃ ρ1 ρ2, tg d ρ = some ρ1 ∧ body ρ1 = some (.nx ρ2) ∧ R ρ2 := by
  obtain ⟨ρ2, h1, h2⟩ := hb
  exact ⟨ρ1, ρ2, h, h1, h2⟩
end Pd
namespace Pd
open PySem L2 Evl
theorem rng1M_eq {fl : DL} {ρ ρ1 : Rho} {r : Nat} (h : fl ρ = some (.ok [.int (r : Int)] ρ1)) (hr : r < 1000000) : rng1M fl ρ = some (.ok (rangeD 0 r) ρ1) := by
  unfold rng1M
  rw [h, bnd_ok]
  have hp : (-1000000 : Int) < (r : Int) ∧ (r : Int) < 1000000 := ⟨by omega, by omega⟩
  dsimp only
  rw [if_pos hp, Int.toNat_natCast]
end Pd
namespace Pd
open PySem L2 Evl
section
variable {a b c d e : PyData} {l : List PyData}
theorem at_nat {n i : Nat} (h : i < n) : at? n (i : Int) = some i := by
  unfold at?
  rw [if_pos (by omega), if_pos (by omega), Int.toNat_natCast]
theorem ix_nat {l : List PyData} {i : Nat} {x : PyData} (h : l[i]? = some x) : ixP (.tuple l) (.int (i : Int)) = some x := by
  have hi : i < l.length := (List.getElem?_eq_some_iff.mp h).1
  show (at? l.length (i : Int)).bind _ = _
  rw [at_nat hi]
  exact h
theorem ix_natL {l : List PyData} {i : Nat} {x : PyData} (h : l[i]? = some x) : ixP (.list l) (.int (i : Int)) = some x := by
  have hi : i < l.length := (List.getElem?_eq_some_iff.mp h).1
  show (at? l.length (i : Int)).bind _ = _
  rw [at_nat hi]
  exact h
@[simp] theorem ix0 : ixP (.tuple (a :: l)) (.int 0) = some a := ix_nat (i := 0) rfl
@[simp] theorem ix1 : ixP (.tuple (a :: b :: l)) (.int 1) = some b := ix_nat (i := 1) rfl
@[simp] theorem ix2 : ixP (.tuple (a :: b :: c :: l)) (.int 2) = some c := ix_nat (i := 2) rfl
@[simp] theorem ix3 : ixP (.tuple (a :: b :: c :: d :: l)) (.int 3) = some d := ix_nat (i := 3) rfl
@[simp] theorem ix4 : ixP (.tuple (a :: b :: c :: d :: e :: l)) (.int 4) = some e := ix_nat (i := 4) rfl
end
theorem addP_N (a b : Nat) : addP (.int (a : Int)) (.int (b : Int)) = some (.int ((a + b : Nat) : Int)) := rfl
theorem mulP_N (a b : Nat) (ha : a < 1000) (hb : b < 1000) : mulP (.int (a : Int)) (.int (b : Int)) = some (.int ((a * b : Nat) : Int)) := by
  have l1 : ((a : Int)).natAbs.log2 < 10 := by
    by_cases h : a = 0
    · subst h; decide
    · exact (Nat.log2_lt (by omega)).mpr (by omega)
  have l2 : ((b : Int)).natAbs.log2 < 10 := by
    by_cases h : b = 0
    · subst h; decide
    · exact (Nat.log2_lt (by omega)).mpr (by omega)
  have hp : ((a : Int)).natAbs.log2 + ((b : Int)).natAbs.log2 < 1000000 := by omega
  unfold mulP
  dsimp only
  rw [if_pos hp]
  rfl
theorem add_tup {x y : List PyData} (h : x.length + y.length ≤ 100000) : addP (.tuple x) (.tuple y) = some (.tuple (x ++ y)) := by
  unfold addP
  dsimp only
  rw [if_pos h]
theorem add_lst {x y : List PyData} (h : x.length + y.length ≤ 100000) : addP (.list x) (.list y) = some (.list (x ++ y)) := by
  unfold addP
  dsimp only
  rw [if_pos h]
end Pd

namespace Pd
open PySem L2 Evl
/-- the same where the outcome is not known ahead -/
theorem for_runE {β α : Type} {A Rst body : DS} {it : DL} {tg : DG} {ρ0 ρ1 ρ2 : Rho} {out : Oc → Option β} {Q : β → Prop} (enc : α → PyData) (xs : List α) (R : List α → List α → Rho → Prop)
    (h1 : A ρ0 = some (.nx ρ1)) (h2 : it ρ1 = some (.ok (xs.map enc) ρ2)) (h3 : R [] xs ρ2)
    (h4 : ∀ (pre : List α) (x : α) (post : List α) (ρ : Rho), R pre (x :: post) ρ → ∃ ρ1 ρ2, tg (enc x) ρ = some ρ1 ∧ body ρ1 = some (.nx ρ2) ∧ R (pre ++ [x]) post ρ2)
    (h5 : ∀ ρ, R xs [] ρ → ∃ r, (Rst ρ).bind out = some r ∧ Q r) : ∃ r, ((seqS A (seqS (forS it tg body) Rst)) ρ0).bind out = some r ∧ Q r := by
  obtain ⟨ρ', h6, h7⟩ := loop_pre (tg := tg) (body := body) enc R [] xs ρ2 h3 h4
  obtain ⟨r, e, q⟩ := h5 ρ' h7
  refine ⟨r, ?_, q⟩
  have e1 : (seqS (forS it tg body) Rst) ρ1 = Rst ρ' := by
    refine seqS_nx ?_
    show bndS (it ρ1) _ = _
    rw [h2]
    exact h6
  rw [seqS_nx h1, e1]
  exact e
end Pd
namespace Pd
open PySem L2 Evl
theorem lcM_eq {fl : DL} {tg : DG} {tt : DB} {e : DE} {vs : List Nat} {ρ ρ1 ρ2 : Rho} {ds out : List PyData} (h1 : fl ρ = some (.ok ds ρ1)) (h2 : lcL tg tt e vs ds [] (wipeR ρ1 vs) = some (out, ρ2)) : lcM fl tg tt e vs ρ = some (.ok out (wipeR ρ2 vs)) := by
  unfold lcM
  rw [h1, bnd_ok, h2]
  rfl
end Pd

namespace K06
open PySem L2 Evl Pd Qt
/-! ### kinds -/
@[simp] theorem nd_non : noDict .none = true := rfl
@[simp] theorem nd_bool (b : Bool) : noDict (.bool b) = true := rfl
@[simp] theorem nd_int (i : Int) : noDict (.int i) = true := rfl
@[simp] theorem nd_str (x : Str) : noDict (.str x) = true := rfl
@[simp] theorem nd_list (ds : List PyData) : noDict (.list ds) = true := rfl
@[simp] theorem nd_tup (ds : List PyData) : noDict (.tuple ds) = true := rfl
theorem F_is_integer_eq (d : PyData) (h : noDict d = true) : F_is_integer [d] = some (PyData.bool (isIntD d)) := by
  cases d <;> first | rfl | cases h
theorem F_is_below_eq {d : PyData} (h : noDict d = true) (n : Int) : F_is_below [d, .int n] = some (PyData.bool (belowB n d)) := by
  cases d with
  | int i =>
    have e := F_is_integer_eq (.int i) rfl
    by_cases h1 : 0 ≤ i
    · simp [F_is_below, den_is_below, belowB, h1, e, isIntD, listM, varM, letM, conM, opM, unM, caM, nilM, consM, tupM, lstM, boolM, andB, orB, notB, andV, orV, notV, ifM, seqS, nextS, breakS, contS, asgS, asgO, dropS, retS, retO, retN, ifS, appS, nameG, seqG, tupG, listI, tupI, seqI, enumI, callM, callE, callN, callB, raiseS, setS, isi1M, isi2M, truB, chainM, noM, partM, slM, lenOM, ixOM, tupOM, toldM, kwM, kwE, enumTI, enumSI, enumOI, yesB, opN, caN, asgG, lrgM, parS, consG, nilG, asgG, extS, seqD, bnd, bndS, bnd0, rho0, rhoB, denQ, denE, denN, denB, outQ, outE, outN, outB, i2, b2, addP, subP, modP, powP, ltP, leP, gtP, geP, isP, isNotP, isNoneP, ixP, negP, lenP, absP, intP, tupleP, listP, at?, truD]
    · simp [F_is_below, den_is_below, belowB, h1, e, isIntD, listM, varM, letM, conM, opM, unM, caM, nilM, consM, tupM, lstM, boolM, andB, orB, notB, andV, orV, notV, ifM, seqS, nextS, breakS, contS, asgS, asgO, dropS, retS, retO, retN, ifS, appS, nameG, seqG, tupG, listI, tupI, seqI, enumI, callM, callE, callN, callB, raiseS, setS, isi1M, isi2M, truB, chainM, noM, partM, slM, lenOM, ixOM, tupOM, toldM, kwM, kwE, enumTI, enumSI, enumOI, yesB, opN, caN, asgG, lrgM, parS, consG, nilG, asgG, extS, seqD, bnd, bndS, bnd0, rho0, rhoB, denQ, denE, denN, denB, outQ, outE, outN, outB, i2, b2, addP, subP, modP, powP, ltP, leP, gtP, geP, isP, isNotP, isNoneP, ixP, negP, lenP, absP, intP, tupleP, listP, at?, truD]
  | dict _ => cases h
  | _ => rfl
theorem F_is_tuple_of_tup (ds : List PyData) (n : Int) : F_is_tuple_of [.tuple ds, .int n] = some (PyData.bool (decide ((ds.length : Int) = n))) := by
  have e : (((ds.length : Int)) == n) = decide ((ds.length : Int) = n) := by
    by_cases h : (ds.length : Int) = n
    · rw [decide_eq_true h]; exact beq_iff_eq.mpr h
    · rw [decide_eq_false h]; exact beq_eq_false_iff_ne.mpr h
  simp [F_is_tuple_of, den_is_tuple_of, eqS, eqP, SeqAt.shaped, PyData.canLay0, PyData.depth, PyData.eqv, e, isi1M, kitB, tyD, listM, varM, letM, conM, opM, unM, caM, nilM, consM, tupM, lstM, boolM, andB, orB, notB, andV, orV, notV, ifM, seqS, nextS, breakS, contS, asgS, asgO, dropS, retS, retO, retN, ifS, appS, nameG, seqG, tupG, listI, tupI, seqI, enumI, callM, callE, callN, callB, raiseS, setS, isi1M, isi2M, truB, chainM, noM, partM, slM, lenOM, ixOM, tupOM, toldM, kwM, kwE, enumTI, enumSI, enumOI, yesB, opN, caN, asgG, lrgM, parS, consG, nilG, asgG, extS, seqD, bnd, bndS, bnd0, rho0, rhoB, denQ, denE, denN, denB, outQ, outE, outN, outB, i2, b2, addP, subP, modP, powP, ltP, leP, gtP, geP, isP, isNotP, isNoneP, ixP, negP, lenP, absP, intP, tupleP, listP, at?, truD]
/-! ### numbers in rows -/
abbrev N (n : Nat) : PyData := .int (n : Int)
abbrev T (l : List Nat) : PyData := .tuple (l.map N)
theorem plainN (l : List Nat) : (l.map N).all noDict = true := by
  rw [List.all_eq_true]
  intro d hd
  obtain ⟨n, _, rfl⟩ := List.mem_map.mp hd
  rfl
theorem are_below_N {l : List Nat} {n : Nat} (h : ∀ v ∈ l, v < n) : F_are_below [T l, N n] = some (.bool true) := by
  show (if (l.map N).all noDict = true then _ else _) = _
  rw [if_pos (plainN l)]
  have : (l.map N).all (belowB n) = true := by
    rw [List.all_eq_true]
    intro d hd
    obtain ⟨v, hv, rfl⟩ := List.mem_map.mp hd
    have := h v hv
    show (decide ((0 : Int) ≤ v) && decide ((v : Int) < n)) = true
    rw [Bool.and_eq_true]
    exact ⟨decide_eq_true (by omega), decide_eq_true (by omega)⟩
  rw [this]
theorem row_of_values_N {l : List Nat} {k n : Nat} (hl : l.length = k) (h : ∀ v ∈ l, v < n) : F_is_row_of_values [T l, N k, N n] = some (.bool true) := by
  have e1 := F_is_tuple_of_tup (l.map N) k
  rw [List.length_map, hl, decide_eq_true rfl] at e1
  have e2 := are_below_N h
  simp [F_is_row_of_values, den_is_row_of_values, e1, e2, listM, varM, letM, conM, opM, unM, caM, nilM, consM, tupM, lstM, boolM, andB, orB, notB, andV, orV, notV, ifM, seqS, nextS, breakS, contS, asgS, asgO, dropS, retS, retO, retN, ifS, appS, nameG, seqG, tupG, listI, tupI, seqI, enumI, callM, callE, callN, callB, raiseS, setS, isi1M, isi2M, truB, chainM, noM, partM, slM, lenOM, ixOM, tupOM, toldM, kwM, kwE, enumTI, enumSI, enumOI, yesB, opN, caN, asgG, lrgM, parS, consG, nilG, asgG, extS, seqD, bnd, bndS, bnd0, rho0, rhoB, denQ, denE, denN, denB, outQ, outE, outN, outB, i2, b2, addP, subP, modP, powP, ltP, leP, gtP, geP, isP, isNotP, isNoneP, ixP, negP, lenP, absP, intP, tupleP, listP, at?, truD]
/-! ### frames -/
structure Fr where
  size : Nat
  regs : Nat
  cells : Nat
  tabs : List (List Nat)
  deep : Nat
def Fr.enc (f : Fr) : PyData := .tuple [N f.size, N f.regs, N f.cells, .tuple (f.tabs.map T), N f.deep]
structure Fr.Ok (f : Fr) : Prop where
  size : f.size = 2 ∨ f.size = 3
  regs : 1 ≤ f.regs ∧ f.regs ≤ 4
  cells : f.cells = 0 ∨ f.cells = f.size
  many : f.tabs.length ≤ 4
  tabs : ∀ t ∈ f.tabs, t.length = f.size * f.size ∧ ∀ v ∈ t, v < f.size
  deep : f.deep ≤ 3
theorem is_size_N {n : Nat} (h : n = 2 ∨ n = 3) : F_is_size [N n] = some (.bool true) := by
  rcases h with rfl | rfl <;> rfl
theorem is_table_N {f : Fr} (h : f.Ok) {t : List Nat} (ht : t ∈ f.tabs) : F_is_table [N f.size, T t] = some (.bool true) := by
  obtain ⟨h1, h2⟩ := h.tabs t ht
  have e := row_of_values_N h1 h2
  have hs : f.size ≤ 3 := by rcases h.size with z | z <;> omega
  have m : mulP (N f.size) (N f.size) = some (N (f.size * f.size)) := by rcases h.size with z | z <;> rw [z] <;> rfl
  simp [F_is_table, den_is_table, m, e, listM, varM, letM, conM, opM, unM, caM, nilM, consM, tupM, lstM, boolM, andB, orB, notB, andV, orV, notV, ifM, seqS, nextS, breakS, contS, asgS, asgO, dropS, retS, retO, retN, ifS, appS, nameG, seqG, tupG, listI, tupI, seqI, enumI, callM, callE, callN, callB, raiseS, setS, isi1M, isi2M, truB, chainM, noM, partM, slM, lenOM, ixOM, tupOM, toldM, kwM, kwE, enumTI, enumSI, enumOI, yesB, opN, caN, asgG, lrgM, parS, consG, nilG, asgG, extS, seqD, bnd, bndS, bnd0, rho0, rhoB, denQ, denE, denN, denB, outQ, outE, outN, outB, i2, b2, addP, subP, modP, powP, ltP, leP, gtP, geP, isP, isNotP, isNoneP, ixP, negP, lenP, absP, intP, tupleP, listP, at?, truD]
theorem are_tables_N {f : Fr} (h : f.Ok) : F_are_tables [N f.size, .tuple (f.tabs.map T)] = some (.bool true) := by
  have hm := h.many
  have hl : ¬ ((4 : Int) < ((f.tabs.map T).length : Nat)) := by rw [List.length_map]; omega
  have hl2 : ¬ ((4 : Int) < (f.tabs.length : Nat)) := by omega
  have e := lc_map (tg := nameG 2) (tt := yesB) (e := callM 2 F_is_table (consM (varM 0) (consM (varM 2) nilM))) (vs := [2]) T (fun _ => PyData.bool true) [.fro (N f.size), .fro (.tuple (f.tabs.map T)), .no] f.tabs [] (by rw [List.length_nil]; omega) (fun t ht => by
    refine ⟨[.fro (N f.size), .fro (.tuple (f.tabs.map T)), .fro (T t)], [.fro (N f.size), .fro (.tuple (f.tabs.map T)), .fro (T t)], [.fro (N f.size), .fro (.tuple (f.tabs.map T)), .fro (T t)], rfl, rfl, ?_, rfl⟩
    have e := is_table_N h ht
    simp [callM, consM, varM, nilM, bnd, e])
  have eb := bools_map (fun _ : List Nat => true) f.tabs
  have ea : (f.tabs.map fun _ => true).all id = true := by rw [all_map, List.all_eq_true]; exact fun _ _ => rfl
  rw [List.nil_append] at e
  simp [F_are_tables, den_are_tables, hl2, isi1M, kitB, tyD, lcM, wipeR, e, allP, eb, ea, listM, varM, letM, conM, opM, unM, caM, nilM, consM, tupM, lstM, boolM, andB, orB, notB, andV, orV, notV, ifM, seqS, nextS, breakS, contS, asgS, asgO, dropS, retS, retO, retN, ifS, appS, nameG, seqG, tupG, listI, tupI, seqI, enumI, callM, callE, callN, callB, raiseS, setS, isi1M, isi2M, truB, chainM, noM, partM, slM, lenOM, ixOM, tupOM, toldM, kwM, kwE, enumTI, enumSI, enumOI, yesB, opN, caN, asgG, lrgM, parS, consG, nilG, asgG, extS, seqD, bnd, bndS, bnd0, rho0, rhoB, denQ, denE, denN, denB, outQ, outE, outN, outB, i2, b2, addP, subP, modP, powP, ltP, leP, gtP, geP, isP, isNotP, isNoneP, ixP, negP, lenP, absP, intP, tupleP, listP, at?, truD]
theorem need_frame_N {f : Fr} (h : f.Ok) : F_need_frame [f.enc] = some (.ok f.enc) := by
  have e1 := F_is_tuple_of_tup [N f.size, N f.regs, N f.cells, .tuple (f.tabs.map T), N f.deep] 5
  have e2 := is_size_N h.size
  have e3 := F_is_below_eq (d := N f.regs) rfl 5
  have e3' : belowB 5 (N f.regs) = true := by
    have := h.regs
    show (decide ((0 : Int) ≤ f.regs) && decide ((f.regs : Int) < 5)) = true
    rw [Bool.and_eq_true]; exact ⟨decide_eq_true (by omega), decide_eq_true (by omega)⟩
  rw [e3'] at e3
  have e4 := F_is_below_eq (d := N f.cells) rfl ((f.size : Int) + 1)
  have e4' : belowB ((f.size : Int) + 1) (N f.cells) = true := by
    have := h.cells
    show (decide ((0 : Int) ≤ f.cells) && decide ((f.cells : Int) < f.size + 1)) = true
    rw [Bool.and_eq_true]; exact ⟨decide_eq_true (by omega), decide_eq_true (by omega)⟩
  rw [e4'] at e4
  have e5 := are_tables_N h
  have e6 := F_is_below_eq (d := N f.deep) rfl 4
  have e6' : belowB 4 (N f.deep) = true := by
    have := h.deep
    show (decide ((0 : Int) ≤ f.deep) && decide ((f.deep : Int) < 4)) = true
    rw [Bool.and_eq_true]; exact ⟨decide_eq_true (by omega), decide_eq_true (by omega)⟩
  rw [e6'] at e6
  have r0 : ((f.regs : Int) == 0) = false := beq_eq_false_iff_ne.mpr (by have := h.regs; omega)
  have r1 : ¬ ((f.regs : Int) = 0) := by have := h.regs; omega
  have c0 : ((0 : Int) == f.cells || (f.size : Int) == f.cells) = true := by
    rcases h.cells with z | z <;> rw [z] <;> simp
  have c1 : ((0 : Int) = f.cells ∨ (f.size : Int) = f.cells) := by
    rcases h.cells with z | z <;> rw [z] <;> simp
  simp at e1
  simp [F_need_frame, den_need_frame, Fr.enc, e1, e2, e3, e4, e5, e6, r0, r1, c0, c1, eqS, eqP, notInP, flatD, SeqAt.shaped, PyData.canLay0, PyData.depth, PyData.eqv, asgG, listM, varM, letM, conM, opM, unM, caM, nilM, consM, tupM, lstM, boolM, andB, orB, notB, andV, orV, notV, ifM, seqS, nextS, breakS, contS, asgS, asgO, dropS, retS, retO, retN, ifS, appS, nameG, seqG, tupG, listI, tupI, seqI, enumI, callM, callE, callN, callB, raiseS, setS, isi1M, isi2M, truB, chainM, noM, partM, slM, lenOM, ixOM, tupOM, toldM, kwM, kwE, enumTI, enumSI, enumOI, yesB, opN, caN, asgG, lrgM, parS, consG, nilG, asgG, extS, seqD, bnd, bndS, bnd0, rho0, rhoB, denQ, denE, denN, denB, outQ, outE, outN, outB, i2, b2, addP, subP, modP, powP, ltP, leP, gtP, geP, isP, isNotP, isNoneP, ixP, negP, lenP, absP, intP, tupleP, listP, at?, truD]
end K06

namespace K06
open PySem L2 Evl Pd
theorem lg {i : Int} {n : Nat} (h : i.natAbs < 2 ^ n) (hn : 0 < n) : i.natAbs.log2 < n := by
  by_cases h0 : i.natAbs = 0
  · rw [h0]
    simpa using hn
  · exact (Nat.log2_lt h0).mpr h
theorem mul_ok (i j : Int) (h1 : i.natAbs < 2 ^ 200) (h2 : j.natAbs < 2 ^ 200) : mulP (.int i) (.int j) = some (.int (i * j)) := by
  have a := lg h1 (by decide)
  have b := lg h2 (by decide)
  show (if _ then _ else _) = _
  rw [if_pos (by omega)]
theorem div_ok (i j : Int) (h1 : 0 < j) (h2 : j.natAbs < 2 ^ 200) : divP (.int i) (.int j) = some (.int (i / j)) := by
  have b := lg h2 (by decide)
  show (if _ then _ else _) = _
  rw [if_pos (by rw [Bool.and_eq_true]; exact ⟨decide_eq_true h1, decide_eq_true (by omega)⟩)]
def Box (m : Nat) (bd : List PyData) : Prop := ∃ x y z : Int, bd = [.int x, .int y, .int z] ∧ 0 ≤ x ∧ 0 ≤ y ∧ y < 2147483648 ∧ 0 ≤ z ∧ z ≤ m
theorem take_ok {m : Nat} {bd : List PyData} (hb : Box m bd) (hm : m < 100000) {many : Int} (h1 : 0 < many) (h2 : many < 1000000) :
    ∃ (d : Int) (bd' : List PyData), F__law_take bd [.int many] = some (.int d, bd') ∧ Box (m + 1) bd' ∧ 0 ≤ d ∧ d < many := by
  obtain ⟨x, y, z, rfl, hx, hy, hy2, hz, hz2⟩ := hb
  by_cases hx0 : 0 < x
  · refine ⟨x % many, [.int (x / many), .int y, .int z], ?_, ⟨_, _, _, rfl, Int.ediv_nonneg hx (by omega), hy, hy2, hz, by omega⟩, Int.emod_nonneg _ (by omega), Int.emod_lt_of_pos _ h1⟩
    simp [F__law_take, den__law_take, hx0, h1, div_ok x many h1 (by omega), listM, varM, letM, conM, opM, unM, caM, nilM, consM, tupM, lstM, boolM, andB, orB, notB, andV, orV, notV, ifM, seqS, nextS, breakS, contS, asgS, asgO, dropS, retS, retO, retN, ifS, appS, nameG, seqG, tupG, listI, tupI, seqI, enumI, callM, callE, callN, callB, raiseS, setS, isi1M, isi2M, truB, chainM, noM, partM, slM, lenOM, ixOM, tupOM, toldM, kwM, kwE, enumTI, enumSI, enumOI, yesB, opN, caN, asgG, lrgM, parS, consG, nilG, asgG, extS, seqD, bnd, bndS, bnd0, rho0, rhoB, denQ, denE, denN, denB, outQ, outE, outN, outB, i2, b2, addP, subP, modP, powP, ltP, leP, gtP, geP, isP, isNotP, isNoneP, ixP, negP, lenP, absP, intP, tupleP, listP, at?, truD]
  · have x0 : x = 0 := by omega
    subst x0
    have e1 := mul_ok 90089 (z + 1) (by decide) (by omega)
    have e2 := mul_ok (y + 90089 * (z + 1)) 58217 (by omega) (by decide)
    have r0 : 0 ≤ ((y + 90089 * (z + 1)) * 58217 + 43) % 2147483563 := Int.emod_nonneg _ (by decide)
    have r1 : ((y + 90089 * (z + 1)) * 58217 + 43) % 2147483563 < 2147483563 := Int.emod_lt_of_pos _ (by decide)
    generalize hr : ((y + 90089 * (z + 1)) * 58217 + 43) % 2147483563 = raw at r0 r1
    have e3 := mul_ok raw 40289 (by omega) (by decide)
    have e4 := mul_ok raw 2147483647 (by omega) (by decide)
    have s0 : 0 ≤ (raw * 40289 + 27367) % 2147483629 := Int.emod_nonneg _ (by decide)
    have s1 : (raw * 40289 + 27367) % 2147483629 < 2147483629 := Int.emod_lt_of_pos _ (by decide)
    have e5 := div_ok (raw * 2147483647 + ((raw * 40289 + 27367) % 2147483629 + 1)) 8191 (by decide) (by decide)
    refine ⟨(raw * 2147483647 + ((raw * 40289 + 27367) % 2147483629 + 1)) / 8191 % many, [.int 0, .int ((raw * 40289 + 27367) % 2147483629 + 1), .int (z + 1)], ?_, ⟨_, _, _, rfl, by decide, by omega, by omega, by omega, by omega⟩, Int.emod_nonneg _ (by omega), Int.emod_lt_of_pos _ h1⟩
    simp [F__law_take, den__law_take, h1, e1, e2, e3, e4, e5, hr, listM, varM, letM, conM, opM, unM, caM, nilM, consM, tupM, lstM, boolM, andB, orB, notB, andV, orV, notV, ifM, seqS, nextS, breakS, contS, asgS, asgO, dropS, retS, retO, retN, ifS, appS, nameG, seqG, tupG, listI, tupI, seqI, enumI, callM, callE, callN, callB, raiseS, setS, isi1M, isi2M, truB, chainM, noM, partM, slM, lenOM, ixOM, tupOM, toldM, kwM, kwE, enumTI, enumSI, enumOI, yesB, opN, caN, asgG, lrgM, parS, consG, nilG, asgG, extS, seqD, bnd, bndS, bnd0, rho0, rhoB, denQ, denE, denN, denB, outQ, outE, outN, outB, i2, b2, addP, subP, modP, powP, ltP, leP, gtP, geP, isP, isNotP, isNoneP, ixP, negP, lenP, absP, intP, tupleP, listP, at?, truD]
end K06

namespace K06
open PySem L2 Evl Pd
theorem Box.of {m : Nat} {bd : List PyData} (h : Box m bd) : ∃ a b c, bd = [a, b, c] := by
  obtain ⟨x, y, z, rfl, _⟩ := h
  exact ⟨_, _, _, rfl⟩
theorem pick_ok {m : Nat} {bd : List PyData} (hb : Box m bd) (hm : m < 100000) (ds : List PyData) (h1 : 0 < ds.length) (h2 : ds.length < 1000000) :
    ∃ (d : PyData) (bd' : List PyData), F__law_pick bd [.list ds] = some (d, bd') ∧ Box (m + 1) bd' ∧ d ∈ ds := by
  obtain ⟨d, bd', e, hb', d0, d1⟩ := take_ok hb hm (many := ds.length) (by omega) (by omega)
  obtain ⟨j, rfl⟩ := Int.eq_ofNat_of_zero_le d0
  have hj : j < ds.length := by omega
  refine ⟨ds[j], bd', ?_, hb', List.getElem_mem hj⟩
  simp [F__law_pick, den__law_pick, e, hj, listM, varM, letM, conM, opM, unM, caM, nilM, consM, tupM, lstM, boolM, andB, orB, notB, andV, orV, notV, ifM, seqS, nextS, breakS, contS, asgS, asgO, dropS, retS, retO, retN, ifS, appS, nameG, seqG, tupG, listI, tupI, seqI, enumI, callM, callE, callN, callB, raiseS, setS, isi1M, isi2M, truB, chainM, noM, partM, slM, lenOM, ixOM, tupOM, toldM, kwM, kwE, enumTI, enumSI, enumOI, yesB, opN, caN, asgG, lrgM, parS, consG, nilG, asgG, extS, seqD, bnd, bndS, bnd0, rho0, rhoB, denQ, denE, denN, denB, outQ, outE, outN, outB, i2, b2, addP, subP, modP, powP, ltP, leP, gtP, geP, isP, isNotP, isNoneP, ixP, negP, lenP, absP, intP, tupleP, listP, at?, truD]
theorem box_ok (ns : List Int) (k : Int) (h0 : 0 ≤ k) (h1 : k < 100) : ∃ bd, F__law_box [scrD ns, .int k] = some bd ∧ Box 0 bd := by
  have m1 := mul_ok 8543 k (by decide) (by omega)
  have m2 := mul_ok 71233 k (by decide) (by omega)
  have lenE : (ns.map PyData.int).length = ns.length := List.length_map ..
  have fin : ∀ c : Int, 0 ≤ c → ∃ x y : Int, 0 ≤ x ∧ 0 ≤ y ∧ y < 2147483648 ∧ mulP (.int (c % 2147483629)) (.int 38569) = some (.int (c % 2147483629 * 38569)) ∧ x = (if 1000000000000000000 ≤ c then c else 0) ∧ y = (c % 2147483629 * 38569 + 71233 * k) % 2147483629 + 1 := fun c hc => by
    have a0 : 0 ≤ c % 2147483629 := Int.emod_nonneg _ (by decide)
    have a1 : c % 2147483629 < 2147483629 := Int.emod_lt_of_pos _ (by decide)
    have b0 : 0 ≤ (c % 2147483629 * 38569 + 71233 * k) % 2147483629 := Int.emod_nonneg _ (by decide)
    have b1 : (c % 2147483629 * 38569 + 71233 * k) % 2147483629 < 2147483629 := Int.emod_lt_of_pos _ (by decide)
    refine ⟨_, _, ?_, ?_, ?_, mul_ok _ _ (by omega) (by decide), rfl, rfl⟩
    · split <;> omega
    · omega
    · omega
  have out : ∀ c : Int, 0 ≤ c → ∀ r, (∀ x y : Int, x = (if 1000000000000000000 ≤ c then c else 0) → y = (c % 2147483629 * 38569 + 71233 * k) % 2147483629 + 1 → mulP (.int (c % 2147483629)) (.int 38569) = some (.int (c % 2147483629 * 38569)) → r = some [PyData.int x, .int y, .int 0]) → ∃ bd, r = some bd ∧ Box 0 bd := fun c hc r hr => by
    obtain ⟨x, y, x0, y0, y1, m, ex, ey⟩ := fin c hc
    exact ⟨_, hr x y ex ey m, x, y, 0, rfl, x0, y0, y1, by decide, by decide⟩
  by_cases hk : k < ns.length
  · obtain ⟨j, rfl⟩ := Int.eq_ofNat_of_zero_le h0
    have hj : j < ns.length := by omega
    refine out (if ns[j] < 0 then - ns[j] else ns[j]) (by split <;> omega) _ fun x y ex ey m => ?_
    subst ex ey
    by_cases hc : 1000000000000000000 ≤ (if ns[j] < 0 then - ns[j] else ns[j])
    · simp [F__law_box, den__law_box, m1, m2, m, hk, hj, hc, listM, varM, letM, conM, opM, unM, caM, nilM, consM, tupM, lstM, boolM, andB, orB, notB, andV, orV, notV, ifM, seqS, nextS, breakS, contS, asgS, asgO, dropS, retS, retO, retN, ifS, appS, nameG, seqG, tupG, listI, tupI, seqI, enumI, callM, callE, callN, callB, raiseS, setS, isi1M, isi2M, truB, chainM, noM, partM, slM, lenOM, ixOM, tupOM, toldM, kwM, kwE, enumTI, enumSI, enumOI, yesB, opN, caN, asgG, lrgM, parS, consG, nilG, asgG, extS, seqD, bnd, bndS, bnd0, rho0, rhoB, denQ, denE, denN, denB, outQ, outE, outN, outB, i2, b2, addP, subP, modP, powP, ltP, leP, gtP, geP, isP, isNotP, isNoneP, ixP, negP, lenP, absP, intP, tupleP, listP, at?, truD]
    · simp [F__law_box, den__law_box, m1, m2, m, hk, hj, hc, listM, varM, letM, conM, opM, unM, caM, nilM, consM, tupM, lstM, boolM, andB, orB, notB, andV, orV, notV, ifM, seqS, nextS, breakS, contS, asgS, asgO, dropS, retS, retO, retN, ifS, appS, nameG, seqG, tupG, listI, tupI, seqI, enumI, callM, callE, callN, callB, raiseS, setS, isi1M, isi2M, truB, chainM, noM, partM, slM, lenOM, ixOM, tupOM, toldM, kwM, kwE, enumTI, enumSI, enumOI, yesB, opN, caN, asgG, lrgM, parS, consG, nilG, asgG, extS, seqD, bnd, bndS, bnd0, rho0, rhoB, denQ, denE, denN, denB, outQ, outE, outN, outB, i2, b2, addP, subP, modP, powP, ltP, leP, gtP, geP, isP, isNotP, isNoneP, ixP, negP, lenP, absP, intP, tupleP, listP, at?, truD]
  · by_cases hn : 0 < ns.length
    · have q0 : 0 ≤ k % ns.length := Int.emod_nonneg _ (by omega)
      have q1 : k % ns.length < ns.length := Int.emod_lt_of_pos _ (by omega)
      obtain ⟨j, hj⟩ := Int.eq_ofNat_of_zero_le q0
      have hj2 : j < ns.length := by omega
      have a0 : 0 ≤ (if ns[j] < 0 then - ns[j] else ns[j]) % 2147483629 := Int.emod_nonneg _ (by decide)
      have a1 : (if ns[j] < 0 then - ns[j] else ns[j]) % 2147483629 < 2147483629 := Int.emod_lt_of_pos _ (by decide)
      have m3 := mul_ok ((if ns[j] < 0 then - ns[j] else ns[j]) % 2147483629) 60497 (by omega) (by decide)
      refine out (8543 * k + 751 + (if ns[j] < 0 then - ns[j] else ns[j]) % 2147483629 * 60497) (by omega) _ fun x y ex ey m => ?_
      subst ex ey
      by_cases hc : 1000000000000000000 ≤ (8543 * k + 751 + (if ns[j] < 0 then - ns[j] else ns[j]) % 2147483629 * 60497)
      · simp [F__law_box, den__law_box, m1, m2, m3, m, hk, hn, hj, hj2, hc, listM, varM, letM, conM, opM, unM, caM, nilM, consM, tupM, lstM, boolM, andB, orB, notB, andV, orV, notV, ifM, seqS, nextS, breakS, contS, asgS, asgO, dropS, retS, retO, retN, ifS, appS, nameG, seqG, tupG, listI, tupI, seqI, enumI, callM, callE, callN, callB, raiseS, setS, isi1M, isi2M, truB, chainM, noM, partM, slM, lenOM, ixOM, tupOM, toldM, kwM, kwE, enumTI, enumSI, enumOI, yesB, opN, caN, asgG, lrgM, parS, consG, nilG, asgG, extS, seqD, bnd, bndS, bnd0, rho0, rhoB, denQ, denE, denN, denB, outQ, outE, outN, outB, i2, b2, addP, subP, modP, powP, ltP, leP, gtP, geP, isP, isNotP, isNoneP, ixP, negP, lenP, absP, intP, tupleP, listP, at?, truD]
      · simp [F__law_box, den__law_box, m1, m2, m3, m, hk, hn, hj, hj2, hc, listM, varM, letM, conM, opM, unM, caM, nilM, consM, tupM, lstM, boolM, andB, orB, notB, andV, orV, notV, ifM, seqS, nextS, breakS, contS, asgS, asgO, dropS, retS, retO, retN, ifS, appS, nameG, seqG, tupG, listI, tupI, seqI, enumI, callM, callE, callN, callB, raiseS, setS, isi1M, isi2M, truB, chainM, noM, partM, slM, lenOM, ixOM, tupOM, toldM, kwM, kwE, enumTI, enumSI, enumOI, yesB, opN, caN, asgG, lrgM, parS, consG, nilG, asgG, extS, seqD, bnd, bndS, bnd0, rho0, rhoB, denQ, denE, denN, denB, outQ, outE, outN, outB, i2, b2, addP, subP, modP, powP, ltP, leP, gtP, geP, isP, isNotP, isNoneP, ixP, negP, lenP, absP, intP, tupleP, listP, at?, truD]
    · refine out (8543 * k + 751) (by omega) _ fun x y ex ey m => ?_
      subst ex ey
      by_cases hc : 1000000000000000000 ≤ 8543 * k + 751
      · simp [F__law_box, den__law_box, m1, m2, m, hk, hn, hc, listM, varM, letM, conM, opM, unM, caM, nilM, consM, tupM, lstM, boolM, andB, orB, notB, andV, orV, notV, ifM, seqS, nextS, breakS, contS, asgS, asgO, dropS, retS, retO, retN, ifS, appS, nameG, seqG, tupG, listI, tupI, seqI, enumI, callM, callE, callN, callB, raiseS, setS, isi1M, isi2M, truB, chainM, noM, partM, slM, lenOM, ixOM, tupOM, toldM, kwM, kwE, enumTI, enumSI, enumOI, yesB, opN, caN, asgG, lrgM, parS, consG, nilG, asgG, extS, seqD, bnd, bndS, bnd0, rho0, rhoB, denQ, denE, denN, denB, outQ, outE, outN, outB, i2, b2, addP, subP, modP, powP, ltP, leP, gtP, geP, isP, isNotP, isNoneP, ixP, negP, lenP, absP, intP, tupleP, listP, at?, truD]
      · simp [F__law_box, den__law_box, m1, m2, m, hk, hn, hc, listM, varM, letM, conM, opM, unM, caM, nilM, consM, tupM, lstM, boolM, andB, orB, notB, andV, orV, notV, ifM, seqS, nextS, breakS, contS, asgS, asgO, dropS, retS, retO, retN, ifS, appS, nameG, seqG, tupG, listI, tupI, seqI, enumI, callM, callE, callN, callB, raiseS, setS, isi1M, isi2M, truB, chainM, noM, partM, slM, lenOM, ixOM, tupOM, toldM, kwM, kwE, enumTI, enumSI, enumOI, yesB, opN, caN, asgG, lrgM, parS, consG, nilG, asgG, extS, seqD, bnd, bndS, bnd0, rho0, rhoB, denQ, denE, denN, denB, outQ, outE, outN, outB, i2, b2, addP, subP, modP, powP, ltP, leP, gtP, geP, isP, isNotP, isNoneP, ixP, negP, lenP, absP, intP, tupleP, listP, at?, truD]
end K06

namespace K06
open PySem L2 Evl Pd Qt
/-! ### rows -/
inductive Row where
  | op (t d a b : Nat)
  | load (d a : Nat)
  | store (a s : Nat)
  | fence
  | fork (r : Nat) (l m : List Row)
  | loop (n : Nat) (b : List Row)
mutual
def Row.enc : Row → PyData
  | .op t d a b => .tuple [.str "op", N t, N d, N a, N b]
  | .load d a => .tuple [.str "load", N d, N a]
  | .store a s => .tuple [.str "store", N a, N s]
  | .fence => .tuple [.str "fence"]
  | .fork r l m => .tuple [.str "fork", N r, .tuple (encs l), .tuple (encs m)]
  | .loop n b => .tuple [.str "loop", N n, .tuple (encs b)]
def encs : List Row → List PyData
  | [] => []
  | x :: xs => x.enc :: encs xs
end
theorem encs_map : ∀ rows : List Row, encs rows = rows.map Row.enc
  | [] => by rw [encs]; rfl
  | x :: xs => by rw [encs, encs_map xs]; rfl
theorem encs_length (rows : List Row) : (encs rows).length = rows.length := by rw [encs_map, List.length_map]
theorem encs_append (a b : List Row) : encs (a ++ b) = encs a ++ encs b := by rw [encs_map, encs_map, encs_map, List.map_append]
abbrev E (rows : List Row) : PyData := .tuple (encs rows)
@[simp] theorem enc_op (t d a b : Nat) : (Row.op t d a b).enc = .tuple [.str "op", N t, N d, N a, N b] := by rw [Row.enc]
@[simp] theorem enc_load (d a : Nat) : (Row.load d a).enc = .tuple [.str "load", N d, N a] := by rw [Row.enc]
@[simp] theorem enc_store (d a : Nat) : (Row.store d a).enc = .tuple [.str "store", N d, N a] := by rw [Row.enc]
@[simp] theorem enc_fence : Row.fence.enc = .tuple [.str "fence"] := by rw [Row.enc]
@[simp] theorem enc_fork (r : Nat) (l m : List Row) : (Row.fork r l m).enc = .tuple [.str "fork", N r, E l, E m] := by rw [Row.enc]
@[simp] theorem enc_loop (n : Nat) (b : List Row) : (Row.loop n b).enc = .tuple [.str "loop", N n, E b] := by rw [Row.enc]
@[simp] theorem k1 : PyData.strOk "op" = true := by decide +kernel
@[simp] theorem k2 : PyData.strOk "load" = true := by decide +kernel
@[simp] theorem k3 : PyData.strOk "store" = true := by decide +kernel
@[simp] theorem k4 : PyData.strOk "fence" = true := by decide +kernel
@[simp] theorem k5 : PyData.strOk "fork" = true := by decide +kernel
@[simp] theorem k6 : PyData.strOk "loop" = true := by decide +kernel
def okR (f : Fr) : Nat → Row → Prop
  | _, .op t d a b => t < f.tabs.length ∧ d < f.regs ∧ a < f.regs ∧ b < f.regs
  | _, .load d a => 0 < f.cells ∧ d < f.regs ∧ a < f.regs
  | _, .store d a => 0 < f.cells ∧ d < f.regs ∧ a < f.regs
  | _, .fence => True
  | n + 1, .fork r l m => r < f.regs ∧ (l.length ≤ 1000 ∧ ∀ x ∈ l, okR f n x) ∧ (m.length ≤ 1000 ∧ ∀ x ∈ m, okR f n x)
  | n + 1, .loop k b => k ≤ 4 ∧ (b.length ≤ 1000 ∧ ∀ x ∈ b, okR f n x)
  | 0, .fork _ _ _ => False
  | 0, .loop _ _ => False
def okRs (f : Fr) (n : Nat) (rows : List Row) : Prop := rows.length ≤ 1000 ∧ ∀ x ∈ rows, okR f n x
@[simp] theorem s1 : ("op" : Str) = "fork" ↔ False := ⟨by decide +kernel, False.elim⟩
@[simp] theorem s2 : ("op" : Str) = "loop" ↔ False := ⟨by decide +kernel, False.elim⟩
@[simp] theorem s3 : ("op" : Str) = "load" ↔ False := ⟨by decide +kernel, False.elim⟩
@[simp] theorem s4 : ("op" : Str) = "store" ↔ False := ⟨by decide +kernel, False.elim⟩
@[simp] theorem s5 : ("load" : Str) = "fork" ↔ False := ⟨by decide +kernel, False.elim⟩
@[simp] theorem s6 : ("load" : Str) = "loop" ↔ False := ⟨by decide +kernel, False.elim⟩
@[simp] theorem s7 : ("load" : Str) = "op" ↔ False := ⟨by decide +kernel, False.elim⟩
@[simp] theorem s8 : ("load" : Str) = "store" ↔ False := ⟨by decide +kernel, False.elim⟩
@[simp] theorem s9 : ("store" : Str) = "fork" ↔ False := ⟨by decide +kernel, False.elim⟩
@[simp] theorem s10 : ("store" : Str) = "loop" ↔ False := ⟨by decide +kernel, False.elim⟩
@[simp] theorem s11 : ("store" : Str) = "op" ↔ False := ⟨by decide +kernel, False.elim⟩
@[simp] theorem s12 : ("store" : Str) = "load" ↔ False := ⟨by decide +kernel, False.elim⟩
@[simp] theorem s13 : ("fence" : Str) = "fork" ↔ False := ⟨by decide +kernel, False.elim⟩
@[simp] theorem s14 : ("fence" : Str) = "loop" ↔ False := ⟨by decide +kernel, False.elim⟩
@[simp] theorem s15 : ("fence" : Str) = "op" ↔ False := ⟨by decide +kernel, False.elim⟩
@[simp] theorem s16 : ("fence" : Str) = "load" ↔ False := ⟨by decide +kernel, False.elim⟩
@[simp] theorem s17 : ("fence" : Str) = "store" ↔ False := ⟨by decide +kernel, False.elim⟩
@[simp] theorem s18 : ("loop" : Str) = "fork" ↔ False := ⟨by decide +kernel, False.elim⟩
@[simp] theorem s19 : ("loop" : Str) = "op" ↔ False := ⟨by decide +kernel, False.elim⟩
@[simp] theorem s20 : ("loop" : Str) = "load" ↔ False := ⟨by decide +kernel, False.elim⟩
@[simp] theorem s21 : ("fork" : Str) = "loop" ↔ False := ⟨by decide +kernel, False.elim⟩
@[simp] theorem s22 : ("fork" : Str) = "op" ↔ False := ⟨by decide +kernel, False.elim⟩
@[simp] theorem s23 : ("fork" : Str) = "load" ↔ False := ⟨by decide +kernel, False.elim⟩
@[simp] theorem s24 : ("load" : Str) = "fence" ↔ False := ⟨by decide +kernel, False.elim⟩
@[simp] theorem s25 : ("op" : Str) = "fence" ↔ False := ⟨by decide +kernel, False.elim⟩
@[simp] theorem s26 : ("store" : Str) = "fence" ↔ False := ⟨by decide +kernel, False.elim⟩
theorem below_N {k n : Nat} (h : k < n) : F_is_below [N k, N n] = some (.bool true) := by
  rw [F_is_below_eq rfl]
  have : belowB (n : Int) (N k) = true := by
    show (decide ((0 : Int) ≤ k) && decide ((k : Int) < n)) = true
    rw [Bool.and_eq_true]; exact ⟨decide_eq_true (by omega), decide_eq_true (by omega)⟩
  rw [this]
theorem strs_op : ((("op" : Str) == "load") || (("op" : Str) == "store")) = false := by decide +kernel
/-- silent rows -/
theorem silent_op {f : Fr} {t d a b : Nat} (h : t < f.tabs.length ∧ d < f.regs ∧ a < f.regs ∧ b < f.regs) : F_is_silent_row [f.enc, (Row.op t d a b).enc] = some (.bool true) := by
  have e1 := below_N h.1
  have e2 : F_are_below [.tuple [N d, N a, N b], N f.regs] = some (.bool true) := are_below_N (l := [d, a, b]) (by simp; omega)
  simp [F_is_silent_row, den_is_silent_row, Fr.enc, e1, e2, eqS, eqP, neS, neP, inP, notInP, flatD, SeqAt.shaped, PyData.canLay0, PyData.canLayAll0, PyData.depth, PyData.depthAll, PyData.eqv, PyData.eqvAll, isi1M, kitB, tyD, slM, partM, noM, slP, listM, varM, letM, conM, opM, unM, caM, nilM, consM, tupM, lstM, boolM, andB, orB, notB, andV, orV, notV, ifM, seqS, nextS, breakS, contS, asgS, asgO, dropS, retS, retO, retN, ifS, appS, nameG, seqG, tupG, listI, tupI, seqI, enumI, callM, callE, callN, callB, raiseS, setS, isi1M, isi2M, truB, chainM, noM, partM, slM, lenOM, ixOM, tupOM, toldM, kwM, kwE, enumTI, enumSI, enumOI, yesB, opN, caN, asgG, lrgM, parS, consG, nilG, asgG, extS, seqD, bnd, bndS, bnd0, rho0, rhoB, denQ, denE, denN, denB, outQ, outE, outN, outB, i2, b2, addP, subP, modP, powP, ltP, leP, gtP, geP, isP, isNotP, isNoneP, ixP, negP, lenP, absP, intP, tupleP, listP, at?, truD]
theorem silent_load {f : Fr} {d a : Nat} (h : 0 < f.cells ∧ d < f.regs ∧ a < f.regs) : F_is_silent_row [f.enc, (Row.load d a).enc] = some (.bool true) := by
  have e2 : F_are_below [.tuple [N d, N a], N f.regs] = some (.bool true) := are_below_N (l := [d, a]) (by simp; omega)
  have hc : (0 : Int) < f.cells := by omega
  simp [F_is_silent_row, den_is_silent_row, Fr.enc, h.1, hc, e2, eqS, eqP, neS, neP, inP, notInP, flatD, SeqAt.shaped, PyData.canLay0, PyData.canLayAll0, PyData.depth, PyData.depthAll, PyData.eqv, PyData.eqvAll, isi1M, kitB, tyD, slM, partM, noM, slP, listM, varM, letM, conM, opM, unM, caM, nilM, consM, tupM, lstM, boolM, andB, orB, notB, andV, orV, notV, ifM, seqS, nextS, breakS, contS, asgS, asgO, dropS, retS, retO, retN, ifS, appS, nameG, seqG, tupG, listI, tupI, seqI, enumI, callM, callE, callN, callB, raiseS, setS, isi1M, isi2M, truB, chainM, noM, partM, slM, lenOM, ixOM, tupOM, toldM, kwM, kwE, enumTI, enumSI, enumOI, yesB, opN, caN, asgG, lrgM, parS, consG, nilG, asgG, extS, seqD, bnd, bndS, bnd0, rho0, rhoB, denQ, denE, denN, denB, outQ, outE, outN, outB, i2, b2, addP, subP, modP, powP, ltP, leP, gtP, geP, isP, isNotP, isNoneP, ixP, negP, lenP, absP, intP, tupleP, listP, at?, truD]
theorem silent_store {f : Fr} {d a : Nat} (h : 0 < f.cells ∧ d < f.regs ∧ a < f.regs) : F_is_silent_row [f.enc, (Row.store d a).enc] = some (.bool true) := by
  have e2 : F_are_below [.tuple [N d, N a], N f.regs] = some (.bool true) := are_below_N (l := [d, a]) (by simp; omega)
  have hc : (0 : Int) < f.cells := by omega
  simp [F_is_silent_row, den_is_silent_row, Fr.enc, h.1, hc, e2, eqS, eqP, neS, neP, inP, notInP, flatD, SeqAt.shaped, PyData.canLay0, PyData.canLayAll0, PyData.depth, PyData.depthAll, PyData.eqv, PyData.eqvAll, isi1M, kitB, tyD, slM, partM, noM, slP, listM, varM, letM, conM, opM, unM, caM, nilM, consM, tupM, lstM, boolM, andB, orB, notB, andV, orV, notV, ifM, seqS, nextS, breakS, contS, asgS, asgO, dropS, retS, retO, retN, ifS, appS, nameG, seqG, tupG, listI, tupI, seqI, enumI, callM, callE, callN, callB, raiseS, setS, isi1M, isi2M, truB, chainM, noM, partM, slM, lenOM, ixOM, tupOM, toldM, kwM, kwE, enumTI, enumSI, enumOI, yesB, opN, caN, asgG, lrgM, parS, consG, nilG, asgG, extS, seqD, bnd, bndS, bnd0, rho0, rhoB, denQ, denE, denN, denB, outQ, outE, outN, outB, i2, b2, addP, subP, modP, powP, ltP, leP, gtP, geP, isP, isNotP, isNoneP, ixP, negP, lenP, absP, intP, tupleP, listP, at?, truD]
theorem are_rows_N {f : Fr} {rows : List Row} {fh : FnQ} (hl : rows.length ≤ 1000) (h : ∀ x ∈ rows, fh [f.enc, x.enc] = some (.bool true)) : G_are_rows fh [f.enc, E rows] = some (.bool true) := by
  have e := lc_map (tg := nameG 2) (tt := yesB) (e := callM 2 fh (consM (varM 0) (consM (varM 2) nilM))) (vs := [2]) Row.enc (fun _ => PyData.bool true) [.fro f.enc, .fro (E rows), .no] rows [] (by rw [List.length_nil]; omega) (fun t ht => by
    refine ⟨[.fro f.enc, .fro (E rows), .fro t.enc], [.fro f.enc, .fro (E rows), .fro t.enc], [.fro f.enc, .fro (E rows), .fro t.enc], rfl, rfl, ?_, rfl⟩
    simp [callM, consM, varM, nilM, bnd, h t ht])
  have eb := bools_map (fun _ : Row => true) rows
  have ea : (rows.map fun _ => true).all id = true := by rw [all_map, List.all_eq_true]; exact fun _ _ => rfl
  rw [List.nil_append, ← encs_map] at e
  simp [G_are_rows, den_are_rows, isi1M, kitB, tyD, lcM, wipeR, e, allP, eb, ea, listM, varM, letM, conM, opM, unM, caM, nilM, consM, tupM, lstM, boolM, andB, orB, notB, andV, orV, notV, ifM, seqS, nextS, breakS, contS, asgS, asgO, dropS, retS, retO, retN, ifS, appS, nameG, seqG, tupG, listI, tupI, seqI, enumI, callM, callE, callN, callB, raiseS, setS, isi1M, isi2M, truB, chainM, noM, partM, slM, lenOM, ixOM, tupOM, toldM, kwM, kwE, enumTI, enumSI, enumOI, yesB, opN, caN, asgG, lrgM, parS, consG, nilG, asgG, extS, seqD, bnd, bndS, bnd0, rho0, rhoB, denQ, denE, denN, denB, outQ, outE, outN, outB, i2, b2, addP, subP, modP, powP, ltP, leP, gtP, geP, isP, isNotP, isNoneP, ixP, negP, lenP, absP, intP, tupleP, listP, at?, truD]
theorem is_row_N {f : Fr} : ∀ (n : Nat) (x : Row), okR f n x → ∀ k, n < k → F_is_row k [f.enc, x.enc] = some (.bool true)
  | n, .op t d a b, h, k + 1, hk => by
    rw [okR] at h
    have e := silent_op h
    rw [enc_op] at e
    simp [F_is_row, den_is_row, e, eqS, eqP, neS, neP, inP, notInP, flatD, SeqAt.shaped, PyData.canLay0, PyData.canLayAll0, PyData.depth, PyData.depthAll, PyData.eqv, PyData.eqvAll, isi1M, kitB, tyD, slM, partM, noM, slP, listM, varM, letM, conM, opM, unM, caM, nilM, consM, tupM, lstM, boolM, andB, orB, notB, andV, orV, notV, ifM, seqS, nextS, breakS, contS, asgS, asgO, dropS, retS, retO, retN, ifS, appS, nameG, seqG, tupG, listI, tupI, seqI, enumI, callM, callE, callN, callB, raiseS, setS, isi1M, isi2M, truB, chainM, noM, partM, slM, lenOM, ixOM, tupOM, toldM, kwM, kwE, enumTI, enumSI, enumOI, yesB, opN, caN, asgG, lrgM, parS, consG, nilG, asgG, extS, seqD, bnd, bndS, bnd0, rho0, rhoB, denQ, denE, denN, denB, outQ, outE, outN, outB, i2, b2, addP, subP, modP, powP, ltP, leP, gtP, geP, isP, isNotP, isNoneP, ixP, negP, lenP, absP, intP, tupleP, listP, at?, truD]
  | n, .load d a, h, k + 1, hk => by
    rw [okR] at h
    have e := silent_load h
    rw [enc_load] at e
    simp [F_is_row, den_is_row, e, eqS, eqP, neS, neP, inP, notInP, flatD, SeqAt.shaped, PyData.canLay0, PyData.canLayAll0, PyData.depth, PyData.depthAll, PyData.eqv, PyData.eqvAll, isi1M, kitB, tyD, slM, partM, noM, slP, listM, varM, letM, conM, opM, unM, caM, nilM, consM, tupM, lstM, boolM, andB, orB, notB, andV, orV, notV, ifM, seqS, nextS, breakS, contS, asgS, asgO, dropS, retS, retO, retN, ifS, appS, nameG, seqG, tupG, listI, tupI, seqI, enumI, callM, callE, callN, callB, raiseS, setS, isi1M, isi2M, truB, chainM, noM, partM, slM, lenOM, ixOM, tupOM, toldM, kwM, kwE, enumTI, enumSI, enumOI, yesB, opN, caN, asgG, lrgM, parS, consG, nilG, asgG, extS, seqD, bnd, bndS, bnd0, rho0, rhoB, denQ, denE, denN, denB, outQ, outE, outN, outB, i2, b2, addP, subP, modP, powP, ltP, leP, gtP, geP, isP, isNotP, isNoneP, ixP, negP, lenP, absP, intP, tupleP, listP, at?, truD]
  | n, .store d a, h, k + 1, hk => by
    rw [okR] at h
    have e := silent_store h
    rw [enc_store] at e
    simp [F_is_row, den_is_row, e, eqS, eqP, neS, neP, inP, notInP, flatD, SeqAt.shaped, PyData.canLay0, PyData.canLayAll0, PyData.depth, PyData.depthAll, PyData.eqv, PyData.eqvAll, isi1M, kitB, tyD, slM, partM, noM, slP, listM, varM, letM, conM, opM, unM, caM, nilM, consM, tupM, lstM, boolM, andB, orB, notB, andV, orV, notV, ifM, seqS, nextS, breakS, contS, asgS, asgO, dropS, retS, retO, retN, ifS, appS, nameG, seqG, tupG, listI, tupI, seqI, enumI, callM, callE, callN, callB, raiseS, setS, isi1M, isi2M, truB, chainM, noM, partM, slM, lenOM, ixOM, tupOM, toldM, kwM, kwE, enumTI, enumSI, enumOI, yesB, opN, caN, asgG, lrgM, parS, consG, nilG, asgG, extS, seqD, bnd, bndS, bnd0, rho0, rhoB, denQ, denE, denN, denB, outQ, outE, outN, outB, i2, b2, addP, subP, modP, powP, ltP, leP, gtP, geP, isP, isNotP, isNoneP, ixP, negP, lenP, absP, intP, tupleP, listP, at?, truD]
  | n, .fence, h, k + 1, hk => by
    simp [F_is_row, den_is_row, eqS, eqP, neS, neP, inP, notInP, flatD, SeqAt.shaped, PyData.canLay0, PyData.canLayAll0, PyData.depth, PyData.depthAll, PyData.eqv, PyData.eqvAll, isi1M, kitB, tyD, slM, partM, noM, slP, listM, varM, letM, conM, opM, unM, caM, nilM, consM, tupM, lstM, boolM, andB, orB, notB, andV, orV, notV, ifM, seqS, nextS, breakS, contS, asgS, asgO, dropS, retS, retO, retN, ifS, appS, nameG, seqG, tupG, listI, tupI, seqI, enumI, callM, callE, callN, callB, raiseS, setS, isi1M, isi2M, truB, chainM, noM, partM, slM, lenOM, ixOM, tupOM, toldM, kwM, kwE, enumTI, enumSI, enumOI, yesB, opN, caN, asgG, lrgM, parS, consG, nilG, asgG, extS, seqD, bnd, bndS, bnd0, rho0, rhoB, denQ, denE, denN, denB, outQ, outE, outN, outB, i2, b2, addP, subP, modP, powP, ltP, leP, gtP, geP, isP, isNotP, isNoneP, ixP, negP, lenP, absP, intP, tupleP, listP, at?, truD]
  | n + 1, .fork r l m, h, k + 1, hk => by
    rw [okR] at h
    have e1 := below_N h.1
    have e2 := are_rows_N (fh := F_is_row k) h.2.1.1 (fun x hx => is_row_N n x (h.2.1.2 x hx) k (by omega))
    have e3 := are_rows_N (fh := F_is_row k) h.2.2.1 (fun x hx => is_row_N n x (h.2.2.2 x hx) k (by omega))
    have e4 : Fr.enc f = .tuple [N f.size, N f.regs, N f.cells, .tuple (f.tabs.map T), N f.deep] := rfl
    rw [e4] at e2 e3
    simp [F_is_row, den_is_row, e1, e2, e3, e4, eqS, eqP, neS, neP, inP, notInP, flatD, SeqAt.shaped, PyData.canLay0, PyData.canLayAll0, PyData.depth, PyData.depthAll, PyData.eqv, PyData.eqvAll, isi1M, kitB, tyD, slM, partM, noM, slP, listM, varM, letM, conM, opM, unM, caM, nilM, consM, tupM, lstM, boolM, andB, orB, notB, andV, orV, notV, ifM, seqS, nextS, breakS, contS, asgS, asgO, dropS, retS, retO, retN, ifS, appS, nameG, seqG, tupG, listI, tupI, seqI, enumI, callM, callE, callN, callB, raiseS, setS, isi1M, isi2M, truB, chainM, noM, partM, slM, lenOM, ixOM, tupOM, toldM, kwM, kwE, enumTI, enumSI, enumOI, yesB, opN, caN, asgG, lrgM, parS, consG, nilG, asgG, extS, seqD, bnd, bndS, bnd0, rho0, rhoB, denQ, denE, denN, denB, outQ, outE, outN, outB, i2, b2, addP, subP, modP, powP, ltP, leP, gtP, geP, isP, isNotP, isNoneP, ixP, negP, lenP, absP, intP, tupleP, listP, at?, truD]
  | n + 1, .loop r b, h, k + 1, hk => by
    rw [okR] at h
    have e1 := below_N (k := r) (n := 5) (by omega)
    have e2 := are_rows_N (fh := F_is_row k) h.2.1 (fun x hx => is_row_N n x (h.2.2 x hx) k (by omega))
    have e3 : (5 : Int) = ((5 : Nat) : Int) := rfl
    simp [F_is_row, den_is_row, e2, eqS, eqP, neS, neP, inP, notInP, flatD, SeqAt.shaped, PyData.canLay0, PyData.canLayAll0, PyData.depth, PyData.depthAll, PyData.eqv, PyData.eqvAll, isi1M, kitB, tyD, slM, partM, noM, slP, listM, varM, letM, conM, opM, unM, caM, nilM, consM, tupM, lstM, boolM, andB, orB, notB, andV, orV, notV, ifM, seqS, nextS, breakS, contS, asgS, asgO, dropS, retS, retO, retN, ifS, appS, nameG, seqG, tupG, listI, tupI, seqI, enumI, callM, callE, callN, callB, raiseS, setS, isi1M, isi2M, truB, chainM, noM, partM, slM, lenOM, ixOM, tupOM, toldM, kwM, kwE, enumTI, enumSI, enumOI, yesB, opN, caN, asgG, lrgM, parS, consG, nilG, asgG, extS, seqD, bnd, bndS, bnd0, rho0, rhoB, denQ, denE, denN, denB, outQ, outE, outN, outB, i2, b2, addP, subP, modP, powP, ltP, leP, gtP, geP, isP, isNotP, isNoneP, ixP, negP, lenP, absP, intP, tupleP, listP, at?, truD]
    have e1' : F_is_below [N r, .int 5] = some (.bool true) := e1
    rw [e1']
    simp [e2, outQ]
  | 0, .fork _ _ _, h, _, _ => by rw [okR] at h; exact h.elim
  | 0, .loop _ _, h, _, _ => by rw [okR] at h; exact h.elim
/-- a program that is right is let by -/
theorem need_program_N {f : Fr} (hf : f.Ok) {n : Nat} {rows : List Row} (h : okRs f n rows) (hn : n < 8) : F_need_program [f.enc, E rows] = some (.ok (E rows)) := by
  have e0 := need_frame_N hf
  have main := loop_pre (tg := seqG (consG (nameG 2) (consG (nameG 3) nilG))) (body := ifS (notB (truB (callM 2 (F_is_row 8) (consM (varM 0) (consM (varM 3) nilM))))) (raiseS 1 (varM 2)) nextS) (fun p : Row × Nat => PyData.tuple [.int (p.2 : Int), p.1.enc])
    (fun _ xs ρ => (∀ p ∈ xs, okR f n p.1) ∧ ∃ a b, ρ = [.fro f.enc, .fro (E rows), a, b]) [] (rows.zipIdx 0) [.fro f.enc, .fro (E rows), .no, .no] ⟨fun p hp => h.2 p.1 (List.fst_mem_of_mem_zipIdx hp), _, _, rfl⟩ (fun pre x post ρ hR => by
      obtain ⟨hx, a, b, rfl⟩ := hR
      have e := is_row_N n x.1 (hx x List.mem_cons_self) 8 hn
      refine ⟨[.fro f.enc, .fro (E rows), .fro (.int (x.2 : Int)), .fro x.1.enc], [.fro f.enc, .fro (E rows), .fro (.int (x.2 : Int)), .fro x.1.enc], rfl, ?_, fun p hp => hx p (List.mem_cons_of_mem _ hp), _, _, rfl⟩
      simp [e, eqS, eqP, neS, neP, inP, notInP, flatD, SeqAt.shaped, PyData.canLay0, PyData.canLayAll0, PyData.depth, PyData.depthAll, PyData.eqv, PyData.eqvAll, isi1M, kitB, tyD, slM, partM, noM, slP, listM, varM, letM, conM, opM, unM, caM, nilM, consM, tupM, lstM, boolM, andB, orB, notB, andV, orV, notV, ifM, seqS, nextS, breakS, contS, asgS, asgO, dropS, retS, retO, retN, ifS, appS, nameG, seqG, tupG, listI, tupI, seqI, enumI, callM, callE, callN, callB, raiseS, setS, isi1M, isi2M, truB, chainM, noM, partM, slM, lenOM, ixOM, tupOM, toldM, kwM, kwE, enumTI, enumSI, enumOI, yesB, opN, caN, asgG, lrgM, parS, consG, nilG, asgG, extS, seqD, bnd, bndS, bnd0, rho0, rhoB, denQ, denE, denN, denB, outQ, outE, outN, outB, i2, b2, addP, subP, modP, powP, ltP, leP, gtP, geP, isP, isNotP, isNoneP, ixP, negP, lenP, absP, intP, tupleP, listP, at?, truD])
  obtain ⟨ρ', h1, _, a, b, rfl⟩ := main
  rw [← enumD_map, ← encs_map] at h1
  simp [F_need_program, den_need_program, e0, forS, enumSI, h1, eqS, eqP, neS, neP, inP, notInP, flatD, SeqAt.shaped, PyData.canLay0, PyData.canLayAll0, PyData.depth, PyData.depthAll, PyData.eqv, PyData.eqvAll, isi1M, kitB, tyD, slM, partM, noM, slP, listM, varM, letM, conM, opM, unM, caM, nilM, consM, tupM, lstM, boolM, andB, orB, notB, andV, orV, notV, ifM, seqS, nextS, breakS, contS, asgS, asgO, dropS, retS, retO, retN, ifS, appS, nameG, seqG, tupG, listI, tupI, seqI, enumI, callM, callE, callN, callB, raiseS, setS, isi1M, isi2M, truB, chainM, noM, partM, slM, lenOM, ixOM, tupOM, toldM, kwM, kwE, enumTI, enumSI, enumOI, yesB, opN, caN, asgG, lrgM, parS, consG, nilG, asgG, extS, seqD, bnd, bndS, bnd0, rho0, rhoB, denQ, denE, denN, denB, outQ, outE, outN, outB, i2, b2, addP, subP, modP, powP, ltP, leP, gtP, geP, isP, isNotP, isNoneP, ixP, negP, lenP, absP, intP, tupleP, listP, at?, truD]
/-! ### data -/
theorem need_datum_N {f : Fr} (hf : f.Ok) {d : List Nat} (hl : d.length = f.regs + f.cells) (h : ∀ v ∈ d, v < f.size) : F_need_datum [f.enc, T d] = some (.ok (T d)) := by
  have e0 := need_frame_N hf
  have e1 := row_of_values_N hl h
  have e2 : F_spots_many [f.enc] = some (N (f.regs + f.cells)) := by
    simp [F_spots_many, den_spots_many, Fr.enc, listM, varM, letM, conM, opM, unM, caM, nilM, consM, tupM, lstM, boolM, andB, orB, notB, andV, orV, notV, ifM, seqS, nextS, breakS, contS, asgS, asgO, dropS, retS, retO, retN, ifS, appS, nameG, seqG, tupG, listI, tupI, seqI, enumI, callM, callE, callN, callB, raiseS, setS, isi1M, isi2M, truB, chainM, noM, partM, slM, lenOM, ixOM, tupOM, toldM, kwM, kwE, enumTI, enumSI, enumOI, yesB, opN, caN, asgG, lrgM, parS, consG, nilG, asgG, extS, seqD, bnd, bndS, bnd0, rho0, rhoB, denQ, denE, denN, denB, outQ, outE, outN, outB, i2, b2, addP, subP, modP, powP, ltP, leP, gtP, geP, isP, isNotP, isNoneP, ixP, negP, lenP, absP, intP, tupleP, listP, at?, truD]
  have e3 : F_is_datum [f.enc, T d] = some (.bool true) := by
    have e4 : f.enc = .tuple [N f.size, N f.regs, N f.cells, .tuple (f.tabs.map T), N f.deep] := rfl
    rw [e4] at e2 ⊢
    simp [F_is_datum, den_is_datum, e1, e2, listM, varM, letM, conM, opM, unM, caM, nilM, consM, tupM, lstM, boolM, andB, orB, notB, andV, orV, notV, ifM, seqS, nextS, breakS, contS, asgS, asgO, dropS, retS, retO, retN, ifS, appS, nameG, seqG, tupG, listI, tupI, seqI, enumI, callM, callE, callN, callB, raiseS, setS, isi1M, isi2M, truB, chainM, noM, partM, slM, lenOM, ixOM, tupOM, toldM, kwM, kwE, enumTI, enumSI, enumOI, yesB, opN, caN, asgG, lrgM, parS, consG, nilG, asgG, extS, seqD, bnd, bndS, bnd0, rho0, rhoB, denQ, denE, denN, denB, outQ, outE, outN, outB, i2, b2, addP, subP, modP, powP, ltP, leP, gtP, geP, isP, isNotP, isNoneP, ixP, negP, lenP, absP, intP, tupleP, listP, at?, truD]
  simp [F_need_datum, den_need_datum, e0, e3, listM, varM, letM, conM, opM, unM, caM, nilM, consM, tupM, lstM, boolM, andB, orB, notB, andV, orV, notV, ifM, seqS, nextS, breakS, contS, asgS, asgO, dropS, retS, retO, retN, ifS, appS, nameG, seqG, tupG, listI, tupI, seqI, enumI, callM, callE, callN, callB, raiseS, setS, isi1M, isi2M, truB, chainM, noM, partM, slM, lenOM, ixOM, tupOM, toldM, kwM, kwE, enumTI, enumSI, enumOI, yesB, opN, caN, asgG, lrgM, parS, consG, nilG, asgG, extS, seqD, bnd, bndS, bnd0, rho0, rhoB, denQ, denE, denN, denB, outQ, outE, outN, outB, i2, b2, addP, subP, modP, powP, ltP, leP, gtP, geP, isP, isNotP, isNoneP, ixP, negP, lenP, absP, intP, tupleP, listP, at?, truD]
end K06

namespace K06
open PySem L2 Evl Pd Qt
/-! ### unrolled -/
mutual
def unr : Row → List Row
  | .loop n b => (List.replicate n (unrs b)).flatten
  | .fork r l m => [.fork r (unrs l) (unrs m)]
  | .op t d a b => [.op t d a b]
  | .load d a => [.load d a]
  | .store d a => [.store d a]
  | .fence => [.fence]
def unrs : List Row → List Row
  | [] => []
  | x :: xs => unr x ++ unrs xs
end
@[simp] theorem unrs_nil : unrs [] = [] := by rw [unrs]
@[simp] theorem unrs_cons (x : Row) (xs : List Row) : unrs (x :: xs) = unr x ++ unrs xs := by rw [unrs]
theorem unrs_append : ∀ (a b : List Row), unrs (a ++ b) = unrs a ++ unrs b
  | [], b => by simp
  | x :: a, b => by rw [List.cons_append, unrs_cons, unrs_cons, unrs_append a b, List.append_assoc]
theorem unrs_one (x : Row) : unrs [x] = unr x := by simp
def fitR : Nat → Row → Prop
  | n + 1, .fork _ l m => ((∀ x ∈ l, fitR n x) ∧ (unrs l).length ≤ 1000) ∧ (∀ x ∈ m, fitR n x) ∧ (unrs m).length ≤ 1000
  | n + 1, .loop k b => k ≤ 4 ∧ (∀ x ∈ b, fitR n x) ∧ (unrs b).length ≤ 1000
  | 0, .fork _ _ _ => False
  | 0, .loop _ _ => False
  | _, .op _ _ _ _ => True
  | _, .load _ _ => True
  | _, .store _ _ => True
  | _, .fence => True
def fits (n : Nat) (rows : List Row) : Prop := (∀ x ∈ rows, fitR n x) ∧ (unrs rows).length ≤ 1000
theorem encs_flat (rows : List Row) : ∀ n : Nat, encs (List.replicate n rows).flatten = (List.replicate n (encs rows)).flatten
  | 0 => by rw [List.replicate_zero, List.replicate_zero, List.flatten_nil, List.flatten_nil, encs]
  | n + 1 => by rw [List.replicate_succ, List.replicate_succ, List.flatten_cons, List.flatten_cons, encs_append, encs_flat rows n]
theorem mul_rows {rows : List Row} {k : Nat} (hk : k ≤ 4) (hl : rows.length ≤ 1000) : mulP (E rows) (N k) = some (E (List.replicate k rows).flatten) := by
  show (if _ then _ else _) = _
  rw [if_pos ⟨by omega, by omega, by rw [encs_length]; exact hl⟩, Int.toNat_natCast]
  show _ = some (PyData.tuple (encs _))
  rw [encs_flat]
theorem fits_split {n : Nat} {pre post rows : List Row} {x : Row} (h : fits n rows) (e : rows = pre ++ x :: post) : fitR n x ∧ (unrs pre).length + (unr x).length ≤ 1000 := by
  subst e
  refine ⟨h.1 x (by simp), ?_⟩
  have := h.2
  rw [unrs_append, unrs_cons] at this
  simp only [List.length_append] at this
  omega
theorem unrolled_N : ∀ (n : Nat) (rows : List Row), fits n rows → ∀ k, n < k → F_unrolled_rows k [E rows] = some (E (unrs rows)) := by
  intro n
  induction n with
  | zero =>
    intro rows h k hk
    obtain ⟨k, rfl⟩ : ∃ j, k = j + 1 := ⟨k - 1, by omega⟩
    show ((den_unrolled_rows (F_unrolled_rows k)) (rho0 3 [E rows])).bind outQ = _
    unfold den_unrolled_rows
    refine for_run (ρ1 := [.fro (E rows), .own false [], .no]) (ρ2 := [.fro (E rows), .own false [], .no]) Row.enc rows (fun pre post ρ => rows = pre ++ post ∧ ∃ c, ρ = [.fro (E rows), .own false (encs (unrs pre)), c]) rfl (by simp [encs_map, listM, varM, letM, conM, opM, unM, caM, nilM, consM, tupM, lstM, boolM, andB, orB, notB, andV, orV, notV, ifM, seqS, nextS, breakS, contS, asgS, asgO, dropS, retS, retO, retN, ifS, appS, nameG, seqG, tupG, listI, tupI, seqI, enumI, callM, callE, callN, callB, raiseS, setS, isi1M, isi2M, truB, chainM, noM, partM, slM, lenOM, ixOM, tupOM, toldM, kwM, kwE, enumTI, enumSI, enumOI, yesB, opN, caN, asgG, lrgM, parS, consG, nilG, asgG, extS, seqD, bnd, bndS, bnd0, rho0, rhoB, denQ, denE, denN, denB, outQ, outE, outN, outB, i2, b2, addP, subP, modP, powP, ltP, leP, gtP, geP, isP, isNotP, isNoneP, ixP, negP, lenP, absP, intP, tupleP, listP, at?, truD]) ⟨rfl, _, rfl⟩ (fun pre x post ρ hR => ?_) (fun ρ hR => ?_)
    · obtain ⟨hs, c, rfl⟩ := hR
      obtain ⟨hx, hl⟩ := fits_split h hs
      refine ⟨[.fro (E rows), .own false (encs (unrs pre)), .fro x.enc], [.fro (E rows), .own false (encs (unrs (pre ++ [x]))), .fro x.enc], rfl, ?_, by rw [hs, List.append_assoc]; rfl, _, rfl⟩
      have hl2 : (encs (unrs pre)).length < 100000 := by rw [encs_length]; omega
      cases x with
      | fork r l m => rw [fitR] at hx; exact hx.elim
      | loop r b => rw [fitR] at hx; exact hx.elim
      | op t d a b => simp [unrs_append, encs_append, unr, encs, hl2, eqS, eqP, neS, neP, inP, notInP, flatD, SeqAt.shaped, PyData.canLay0, PyData.canLayAll0, PyData.depth, PyData.depthAll, PyData.eqv, PyData.eqvAll, isi1M, kitB, tyD, slM, partM, noM, slP, listM, varM, letM, conM, opM, unM, caM, nilM, consM, tupM, lstM, boolM, andB, orB, notB, andV, orV, notV, ifM, seqS, nextS, breakS, contS, asgS, asgO, dropS, retS, retO, retN, ifS, appS, nameG, seqG, tupG, listI, tupI, seqI, enumI, callM, callE, callN, callB, raiseS, setS, isi1M, isi2M, truB, chainM, noM, partM, slM, lenOM, ixOM, tupOM, toldM, kwM, kwE, enumTI, enumSI, enumOI, yesB, opN, caN, asgG, lrgM, parS, consG, nilG, asgG, extS, seqD, bnd, bndS, bnd0, rho0, rhoB, denQ, denE, denN, denB, outQ, outE, outN, outB, i2, b2, addP, subP, modP, powP, ltP, leP, gtP, geP, isP, isNotP, isNoneP, ixP, negP, lenP, absP, intP, tupleP, listP, at?, truD]
      | load d a => simp [unrs_append, encs_append, unr, encs, hl2, eqS, eqP, neS, neP, inP, notInP, flatD, SeqAt.shaped, PyData.canLay0, PyData.canLayAll0, PyData.depth, PyData.depthAll, PyData.eqv, PyData.eqvAll, isi1M, kitB, tyD, slM, partM, noM, slP, listM, varM, letM, conM, opM, unM, caM, nilM, consM, tupM, lstM, boolM, andB, orB, notB, andV, orV, notV, ifM, seqS, nextS, breakS, contS, asgS, asgO, dropS, retS, retO, retN, ifS, appS, nameG, seqG, tupG, listI, tupI, seqI, enumI, callM, callE, callN, callB, raiseS, setS, isi1M, isi2M, truB, chainM, noM, partM, slM, lenOM, ixOM, tupOM, toldM, kwM, kwE, enumTI, enumSI, enumOI, yesB, opN, caN, asgG, lrgM, parS, consG, nilG, asgG, extS, seqD, bnd, bndS, bnd0, rho0, rhoB, denQ, denE, denN, denB, outQ, outE, outN, outB, i2, b2, addP, subP, modP, powP, ltP, leP, gtP, geP, isP, isNotP, isNoneP, ixP, negP, lenP, absP, intP, tupleP, listP, at?, truD]
      | store d a => simp [unrs_append, encs_append, unr, encs, hl2, eqS, eqP, neS, neP, inP, notInP, flatD, SeqAt.shaped, PyData.canLay0, PyData.canLayAll0, PyData.depth, PyData.depthAll, PyData.eqv, PyData.eqvAll, isi1M, kitB, tyD, slM, partM, noM, slP, listM, varM, letM, conM, opM, unM, caM, nilM, consM, tupM, lstM, boolM, andB, orB, notB, andV, orV, notV, ifM, seqS, nextS, breakS, contS, asgS, asgO, dropS, retS, retO, retN, ifS, appS, nameG, seqG, tupG, listI, tupI, seqI, enumI, callM, callE, callN, callB, raiseS, setS, isi1M, isi2M, truB, chainM, noM, partM, slM, lenOM, ixOM, tupOM, toldM, kwM, kwE, enumTI, enumSI, enumOI, yesB, opN, caN, asgG, lrgM, parS, consG, nilG, asgG, extS, seqD, bnd, bndS, bnd0, rho0, rhoB, denQ, denE, denN, denB, outQ, outE, outN, outB, i2, b2, addP, subP, modP, powP, ltP, leP, gtP, geP, isP, isNotP, isNoneP, ixP, negP, lenP, absP, intP, tupleP, listP, at?, truD]
      | fence => simp [unrs_append, encs_append, unr, encs, hl2, eqS, eqP, neS, neP, inP, notInP, flatD, SeqAt.shaped, PyData.canLay0, PyData.canLayAll0, PyData.depth, PyData.depthAll, PyData.eqv, PyData.eqvAll, isi1M, kitB, tyD, slM, partM, noM, slP, listM, varM, letM, conM, opM, unM, caM, nilM, consM, tupM, lstM, boolM, andB, orB, notB, andV, orV, notV, ifM, seqS, nextS, breakS, contS, asgS, asgO, dropS, retS, retO, retN, ifS, appS, nameG, seqG, tupG, listI, tupI, seqI, enumI, callM, callE, callN, callB, raiseS, setS, isi1M, isi2M, truB, chainM, noM, partM, slM, lenOM, ixOM, tupOM, toldM, kwM, kwE, enumTI, enumSI, enumOI, yesB, opN, caN, asgG, lrgM, parS, consG, nilG, asgG, extS, seqD, bnd, bndS, bnd0, rho0, rhoB, denQ, denE, denN, denB, outQ, outE, outN, outB, i2, b2, addP, subP, modP, powP, ltP, leP, gtP, geP, isP, isNotP, isNoneP, ixP, negP, lenP, absP, intP, tupleP, listP, at?, truD]
    · obtain ⟨_, c, rfl⟩ := hR
      simp [tupOM, listM, varM, letM, conM, opM, unM, caM, nilM, consM, tupM, lstM, boolM, andB, orB, notB, andV, orV, notV, ifM, seqS, nextS, breakS, contS, asgS, asgO, dropS, retS, retO, retN, ifS, appS, nameG, seqG, tupG, listI, tupI, seqI, enumI, callM, callE, callN, callB, raiseS, setS, isi1M, isi2M, truB, chainM, noM, partM, slM, lenOM, ixOM, tupOM, toldM, kwM, kwE, enumTI, enumSI, enumOI, yesB, opN, caN, asgG, lrgM, parS, consG, nilG, asgG, extS, seqD, bnd, bndS, bnd0, rho0, rhoB, denQ, denE, denN, denB, outQ, outE, outN, outB, i2, b2, addP, subP, modP, powP, ltP, leP, gtP, geP, isP, isNotP, isNoneP, ixP, negP, lenP, absP, intP, tupleP, listP, at?, truD]
  | succ n ih =>
    intro rows h k hk
    obtain ⟨k, rfl⟩ : ∃ j, k = j + 1 := ⟨k - 1, by omega⟩
    show ((den_unrolled_rows (F_unrolled_rows k)) (rho0 3 [E rows])).bind outQ = _
    unfold den_unrolled_rows
    refine for_run (ρ1 := [.fro (E rows), .own false [], .no]) (ρ2 := [.fro (E rows), .own false [], .no]) Row.enc rows (fun pre post ρ => rows = pre ++ post ∧ ∃ c, ρ = [.fro (E rows), .own false (encs (unrs pre)), c]) rfl (by simp [encs_map, listM, varM, letM, conM, opM, unM, caM, nilM, consM, tupM, lstM, boolM, andB, orB, notB, andV, orV, notV, ifM, seqS, nextS, breakS, contS, asgS, asgO, dropS, retS, retO, retN, ifS, appS, nameG, seqG, tupG, listI, tupI, seqI, enumI, callM, callE, callN, callB, raiseS, setS, isi1M, isi2M, truB, chainM, noM, partM, slM, lenOM, ixOM, tupOM, toldM, kwM, kwE, enumTI, enumSI, enumOI, yesB, opN, caN, asgG, lrgM, parS, consG, nilG, asgG, extS, seqD, bnd, bndS, bnd0, rho0, rhoB, denQ, denE, denN, denB, outQ, outE, outN, outB, i2, b2, addP, subP, modP, powP, ltP, leP, gtP, geP, isP, isNotP, isNoneP, ixP, negP, lenP, absP, intP, tupleP, listP, at?, truD]) ⟨rfl, _, rfl⟩ (fun pre x post ρ hR => ?_) (fun ρ hR => ?_)
    · obtain ⟨hs, c, rfl⟩ := hR
      obtain ⟨hx, hl⟩ := fits_split h hs
      refine ⟨[.fro (E rows), .own false (encs (unrs pre)), .fro x.enc], [.fro (E rows), .own false (encs (unrs (pre ++ [x]))), .fro x.enc], rfl, ?_, by rw [hs, List.append_assoc]; rfl, _, rfl⟩
      have hl2 : (encs (unrs pre)).length < 100000 := by rw [encs_length]; omega
      cases x with
      | fork r l m =>
        rw [fitR] at hx
        have e1 := ih l hx.1 k (by omega)
        have e2 := ih m hx.2 k (by omega)
        simp [e1, e2, unrs_append, encs_append, unr, encs, hl2, eqS, eqP, neS, neP, inP, notInP, flatD, SeqAt.shaped, PyData.canLay0, PyData.canLayAll0, PyData.depth, PyData.depthAll, PyData.eqv, PyData.eqvAll, isi1M, kitB, tyD, slM, partM, noM, slP, listM, varM, letM, conM, opM, unM, caM, nilM, consM, tupM, lstM, boolM, andB, orB, notB, andV, orV, notV, ifM, seqS, nextS, breakS, contS, asgS, asgO, dropS, retS, retO, retN, ifS, appS, nameG, seqG, tupG, listI, tupI, seqI, enumI, callM, callE, callN, callB, raiseS, setS, isi1M, isi2M, truB, chainM, noM, partM, slM, lenOM, ixOM, tupOM, toldM, kwM, kwE, enumTI, enumSI, enumOI, yesB, opN, caN, asgG, lrgM, parS, consG, nilG, asgG, extS, seqD, bnd, bndS, bnd0, rho0, rhoB, denQ, denE, denN, denB, outQ, outE, outN, outB, i2, b2, addP, subP, modP, powP, ltP, leP, gtP, geP, isP, isNotP, isNoneP, ixP, negP, lenP, absP, intP, tupleP, listP, at?, truD]
      | loop r b =>
        rw [fitR] at hx
        have e1 := ih b hx.2 k (by omega)
        have e2 := mul_rows hx.1 hx.2.2
        have hl3 : (encs (unrs pre)).length + (encs (List.replicate r (unrs b)).flatten).length ≤ 100000 := by
          rw [encs_length, encs_length]
          rw [unr] at hl
          omega
        simp [e1, e2, unrs_append, encs_append, unr, hl3, eqS, eqP, neS, neP, inP, notInP, flatD, SeqAt.shaped, PyData.canLay0, PyData.canLayAll0, PyData.depth, PyData.depthAll, PyData.eqv, PyData.eqvAll, isi1M, kitB, tyD, slM, partM, noM, slP, listM, varM, letM, conM, opM, unM, caM, nilM, consM, tupM, lstM, boolM, andB, orB, notB, andV, orV, notV, ifM, seqS, nextS, breakS, contS, asgS, asgO, dropS, retS, retO, retN, ifS, appS, nameG, seqG, tupG, listI, tupI, seqI, enumI, callM, callE, callN, callB, raiseS, setS, isi1M, isi2M, truB, chainM, noM, partM, slM, lenOM, ixOM, tupOM, toldM, kwM, kwE, enumTI, enumSI, enumOI, yesB, opN, caN, asgG, lrgM, parS, consG, nilG, asgG, extS, seqD, bnd, bndS, bnd0, rho0, rhoB, denQ, denE, denN, denB, outQ, outE, outN, outB, i2, b2, addP, subP, modP, powP, ltP, leP, gtP, geP, isP, isNotP, isNoneP, ixP, negP, lenP, absP, intP, tupleP, listP, at?, truD]
      | op t d a b => simp [unrs_append, encs_append, unr, encs, hl2, eqS, eqP, neS, neP, inP, notInP, flatD, SeqAt.shaped, PyData.canLay0, PyData.canLayAll0, PyData.depth, PyData.depthAll, PyData.eqv, PyData.eqvAll, isi1M, kitB, tyD, slM, partM, noM, slP, listM, varM, letM, conM, opM, unM, caM, nilM, consM, tupM, lstM, boolM, andB, orB, notB, andV, orV, notV, ifM, seqS, nextS, breakS, contS, asgS, asgO, dropS, retS, retO, retN, ifS, appS, nameG, seqG, tupG, listI, tupI, seqI, enumI, callM, callE, callN, callB, raiseS, setS, isi1M, isi2M, truB, chainM, noM, partM, slM, lenOM, ixOM, tupOM, toldM, kwM, kwE, enumTI, enumSI, enumOI, yesB, opN, caN, asgG, lrgM, parS, consG, nilG, asgG, extS, seqD, bnd, bndS, bnd0, rho0, rhoB, denQ, denE, denN, denB, outQ, outE, outN, outB, i2, b2, addP, subP, modP, powP, ltP, leP, gtP, geP, isP, isNotP, isNoneP, ixP, negP, lenP, absP, intP, tupleP, listP, at?, truD]
      | load d a => simp [unrs_append, encs_append, unr, encs, hl2, eqS, eqP, neS, neP, inP, notInP, flatD, SeqAt.shaped, PyData.canLay0, PyData.canLayAll0, PyData.depth, PyData.depthAll, PyData.eqv, PyData.eqvAll, isi1M, kitB, tyD, slM, partM, noM, slP, listM, varM, letM, conM, opM, unM, caM, nilM, consM, tupM, lstM, boolM, andB, orB, notB, andV, orV, notV, ifM, seqS, nextS, breakS, contS, asgS, asgO, dropS, retS, retO, retN, ifS, appS, nameG, seqG, tupG, listI, tupI, seqI, enumI, callM, callE, callN, callB, raiseS, setS, isi1M, isi2M, truB, chainM, noM, partM, slM, lenOM, ixOM, tupOM, toldM, kwM, kwE, enumTI, enumSI, enumOI, yesB, opN, caN, asgG, lrgM, parS, consG, nilG, asgG, extS, seqD, bnd, bndS, bnd0, rho0, rhoB, denQ, denE, denN, denB, outQ, outE, outN, outB, i2, b2, addP, subP, modP, powP, ltP, leP, gtP, geP, isP, isNotP, isNoneP, ixP, negP, lenP, absP, intP, tupleP, listP, at?, truD]
      | store d a => simp [unrs_append, encs_append, unr, encs, hl2, eqS, eqP, neS, neP, inP, notInP, flatD, SeqAt.shaped, PyData.canLay0, PyData.canLayAll0, PyData.depth, PyData.depthAll, PyData.eqv, PyData.eqvAll, isi1M, kitB, tyD, slM, partM, noM, slP, listM, varM, letM, conM, opM, unM, caM, nilM, consM, tupM, lstM, boolM, andB, orB, notB, andV, orV, notV, ifM, seqS, nextS, breakS, contS, asgS, asgO, dropS, retS, retO, retN, ifS, appS, nameG, seqG, tupG, listI, tupI, seqI, enumI, callM, callE, callN, callB, raiseS, setS, isi1M, isi2M, truB, chainM, noM, partM, slM, lenOM, ixOM, tupOM, toldM, kwM, kwE, enumTI, enumSI, enumOI, yesB, opN, caN, asgG, lrgM, parS, consG, nilG, asgG, extS, seqD, bnd, bndS, bnd0, rho0, rhoB, denQ, denE, denN, denB, outQ, outE, outN, outB, i2, b2, addP, subP, modP, powP, ltP, leP, gtP, geP, isP, isNotP, isNoneP, ixP, negP, lenP, absP, intP, tupleP, listP, at?, truD]
      | fence => simp [unrs_append, encs_append, unr, encs, hl2, eqS, eqP, neS, neP, inP, notInP, flatD, SeqAt.shaped, PyData.canLay0, PyData.canLayAll0, PyData.depth, PyData.depthAll, PyData.eqv, PyData.eqvAll, isi1M, kitB, tyD, slM, partM, noM, slP, listM, varM, letM, conM, opM, unM, caM, nilM, consM, tupM, lstM, boolM, andB, orB, notB, andV, orV, notV, ifM, seqS, nextS, breakS, contS, asgS, asgO, dropS, retS, retO, retN, ifS, appS, nameG, seqG, tupG, listI, tupI, seqI, enumI, callM, callE, callN, callB, raiseS, setS, isi1M, isi2M, truB, chainM, noM, partM, slM, lenOM, ixOM, tupOM, toldM, kwM, kwE, enumTI, enumSI, enumOI, yesB, opN, caN, asgG, lrgM, parS, consG, nilG, asgG, extS, seqD, bnd, bndS, bnd0, rho0, rhoB, denQ, denE, denN, denB, outQ, outE, outN, outB, i2, b2, addP, subP, modP, powP, ltP, leP, gtP, geP, isP, isNotP, isNoneP, ixP, negP, lenP, absP, intP, tupleP, listP, at?, truD]
    · obtain ⟨_, c, rfl⟩ := hR
      simp [tupOM, listM, varM, letM, conM, opM, unM, caM, nilM, consM, tupM, lstM, boolM, andB, orB, notB, andV, orV, notV, ifM, seqS, nextS, breakS, contS, asgS, asgO, dropS, retS, retO, retN, ifS, appS, nameG, seqG, tupG, listI, tupI, seqI, enumI, callM, callE, callN, callB, raiseS, setS, isi1M, isi2M, truB, chainM, noM, partM, slM, lenOM, ixOM, tupOM, toldM, kwM, kwE, enumTI, enumSI, enumOI, yesB, opN, caN, asgG, lrgM, parS, consG, nilG, asgG, extS, seqD, bnd, bndS, bnd0, rho0, rhoB, denQ, denE, denN, denB, outQ, outE, outN, outB, i2, b2, addP, subP, modP, powP, ltP, leP, gtP, geP, isP, isNotP, isNoneP, ixP, negP, lenP, absP, intP, tupleP, listP, at?, truD]
end K06

namespace K06
open PySem L2 Evl Pd Qt
/-! ### the law's own unrolling -/
theorem flat_succ {α : Type} (l : List α) (i : Nat) : (List.replicate (i + 1) l).flatten = (List.replicate i l).flatten ++ l := by
  rw [List.replicate_succ', List.flatten_append]
  simp
theorem flat_len {α : Type} (l : List α) (i : Nat) : (List.replicate i l).flatten.length = i * l.length := by simp
theorem plain_N : ∀ (n : Nat) (rows : List Row), fits n rows → ∀ k, n < k → F__law_plain k [E rows] = some (.list (encs (unrs rows))) := by
  intro n
  induction n using Nat.strongRecOn with
  | _ n ih =>
    intro rows h k hk
    obtain ⟨k, rfl⟩ : ∃ j, k = j + 1 := ⟨k - 1, by omega⟩
    show ((den__law_plain (F__law_plain k)) (rho0 4 [E rows])).bind outQ = _
    unfold den__law_plain
    refine for_run (ρ1 := [.fro (E rows), .own false [], .no, .no]) (ρ2 := [.fro (E rows), .own false [], .no, .no]) Row.enc rows (fun pre post ρ => rows = pre ++ post ∧ ∃ c d, ρ = [.fro (E rows), .own false (encs (unrs pre)), c, d]) rfl (by simp [encs_map, listM, varM, letM, conM, opM, unM, caM, nilM, consM, tupM, lstM, boolM, andB, orB, notB, andV, orV, notV, ifM, seqS, nextS, breakS, contS, asgS, asgO, dropS, retS, retO, retN, ifS, appS, nameG, seqG, tupG, listI, tupI, seqI, enumI, callM, callE, callN, callB, raiseS, setS, isi1M, isi2M, truB, chainM, noM, partM, slM, lenOM, ixOM, tupOM, toldM, kwM, kwE, enumTI, enumSI, enumOI, yesB, opN, caN, asgG, lrgM, parS, consG, nilG, asgG, extS, seqD, bnd, bndS, bnd0, rho0, rhoB, denQ, denE, denN, denB, outQ, outE, outN, outB, i2, b2, addP, subP, modP, powP, ltP, leP, gtP, geP, isP, isNotP, isNoneP, ixP, negP, lenP, absP, intP, tupleP, listP, at?, truD]) ⟨rfl, _, _, rfl⟩ (fun pre x post ρ hR => ?_) (fun ρ hR => ?_)
    · obtain ⟨hs, cz, dz, rfl⟩ := hR
      obtain ⟨hx, hl⟩ := fits_split h hs
      have hl2 : (encs (unrs pre)).length < 100000 := by rw [encs_length]; omega
      refine step_of (ρ1 := [.fro (E rows), .own false (encs (unrs pre)), .fro x.enc, dz]) rfl ?_
      have fin : rows = (pre ++ [x]) ++ post := by rw [hs, List.append_assoc]; rfl
      cases x with
      | op t d a b => exact ⟨[.fro (E rows), .own false (encs (unrs (pre ++ [.op t d a b]))), .fro (Row.op t d a b).enc, dz], by simp [unrs_append, encs_append, unr, encs, hl2, eqS, eqP, neS, neP, inP, notInP, flatD, SeqAt.shaped, PyData.canLay0, PyData.canLayAll0, PyData.depth, PyData.depthAll, PyData.eqv, PyData.eqvAll, isi1M, kitB, tyD, slM, partM, noM, slP, listM, varM, letM, conM, opM, unM, caM, nilM, consM, tupM, lstM, boolM, andB, orB, notB, andV, orV, notV, ifM, seqS, nextS, breakS, contS, asgS, asgO, dropS, retS, retO, retN, ifS, appS, nameG, seqG, tupG, listI, tupI, seqI, enumI, callM, callE, callN, callB, raiseS, setS, isi1M, isi2M, truB, chainM, noM, partM, slM, lenOM, ixOM, tupOM, toldM, kwM, kwE, enumTI, enumSI, enumOI, yesB, opN, caN, asgG, lrgM, parS, consG, nilG, asgG, extS, seqD, bnd, bndS, bnd0, rho0, rhoB, denQ, denE, denN, denB, outQ, outE, outN, outB, i2, b2, addP, subP, modP, powP, ltP, leP, gtP, geP, isP, isNotP, isNoneP, ixP, negP, lenP, absP, intP, tupleP, listP, at?, truD], fin, _, _, rfl⟩
      | load d a => exact ⟨[.fro (E rows), .own false (encs (unrs (pre ++ [.load d a]))), .fro (Row.load d a).enc, dz], by simp [unrs_append, encs_append, unr, encs, hl2, eqS, eqP, neS, neP, inP, notInP, flatD, SeqAt.shaped, PyData.canLay0, PyData.canLayAll0, PyData.depth, PyData.depthAll, PyData.eqv, PyData.eqvAll, isi1M, kitB, tyD, slM, partM, noM, slP, listM, varM, letM, conM, opM, unM, caM, nilM, consM, tupM, lstM, boolM, andB, orB, notB, andV, orV, notV, ifM, seqS, nextS, breakS, contS, asgS, asgO, dropS, retS, retO, retN, ifS, appS, nameG, seqG, tupG, listI, tupI, seqI, enumI, callM, callE, callN, callB, raiseS, setS, isi1M, isi2M, truB, chainM, noM, partM, slM, lenOM, ixOM, tupOM, toldM, kwM, kwE, enumTI, enumSI, enumOI, yesB, opN, caN, asgG, lrgM, parS, consG, nilG, asgG, extS, seqD, bnd, bndS, bnd0, rho0, rhoB, denQ, denE, denN, denB, outQ, outE, outN, outB, i2, b2, addP, subP, modP, powP, ltP, leP, gtP, geP, isP, isNotP, isNoneP, ixP, negP, lenP, absP, intP, tupleP, listP, at?, truD], fin, _, _, rfl⟩
      | store d a => exact ⟨[.fro (E rows), .own false (encs (unrs (pre ++ [.store d a]))), .fro (Row.store d a).enc, dz], by simp [unrs_append, encs_append, unr, encs, hl2, eqS, eqP, neS, neP, inP, notInP, flatD, SeqAt.shaped, PyData.canLay0, PyData.canLayAll0, PyData.depth, PyData.depthAll, PyData.eqv, PyData.eqvAll, isi1M, kitB, tyD, slM, partM, noM, slP, listM, varM, letM, conM, opM, unM, caM, nilM, consM, tupM, lstM, boolM, andB, orB, notB, andV, orV, notV, ifM, seqS, nextS, breakS, contS, asgS, asgO, dropS, retS, retO, retN, ifS, appS, nameG, seqG, tupG, listI, tupI, seqI, enumI, callM, callE, callN, callB, raiseS, setS, isi1M, isi2M, truB, chainM, noM, partM, slM, lenOM, ixOM, tupOM, toldM, kwM, kwE, enumTI, enumSI, enumOI, yesB, opN, caN, asgG, lrgM, parS, consG, nilG, asgG, extS, seqD, bnd, bndS, bnd0, rho0, rhoB, denQ, denE, denN, denB, outQ, outE, outN, outB, i2, b2, addP, subP, modP, powP, ltP, leP, gtP, geP, isP, isNotP, isNoneP, ixP, negP, lenP, absP, intP, tupleP, listP, at?, truD], fin, _, _, rfl⟩
      | fence => exact ⟨[.fro (E rows), .own false (encs (unrs (pre ++ [.fence]))), .fro Row.fence.enc, dz], by simp [unrs_append, encs_append, unr, encs, hl2, eqS, eqP, neS, neP, inP, notInP, flatD, SeqAt.shaped, PyData.canLay0, PyData.canLayAll0, PyData.depth, PyData.depthAll, PyData.eqv, PyData.eqvAll, isi1M, kitB, tyD, slM, partM, noM, slP, listM, varM, letM, conM, opM, unM, caM, nilM, consM, tupM, lstM, boolM, andB, orB, notB, andV, orV, notV, ifM, seqS, nextS, breakS, contS, asgS, asgO, dropS, retS, retO, retN, ifS, appS, nameG, seqG, tupG, listI, tupI, seqI, enumI, callM, callE, callN, callB, raiseS, setS, isi1M, isi2M, truB, chainM, noM, partM, slM, lenOM, ixOM, tupOM, toldM, kwM, kwE, enumTI, enumSI, enumOI, yesB, opN, caN, asgG, lrgM, parS, consG, nilG, asgG, extS, seqD, bnd, bndS, bnd0, rho0, rhoB, denQ, denE, denN, denB, outQ, outE, outN, outB, i2, b2, addP, subP, modP, powP, ltP, leP, gtP, geP, isP, isNotP, isNoneP, ixP, negP, lenP, absP, intP, tupleP, listP, at?, truD], fin, _, _, rfl⟩
      | fork r l m =>
        cases n with
        | zero => rw [fitR] at hx; exact hx.elim
        | succ n =>
          rw [fitR] at hx
          have e1 := ih n (by omega) l hx.1 k (by omega)
          have e2 := ih n (by omega) m hx.2 k (by omega)
          exact ⟨[.fro (E rows), .own false (encs (unrs (pre ++ [.fork r l m]))), .fro (Row.fork r l m).enc, dz], by simp [e1, e2, unrs_append, encs_append, unr, encs, hl2, eqS, eqP, neS, neP, inP, notInP, flatD, SeqAt.shaped, PyData.canLay0, PyData.canLayAll0, PyData.depth, PyData.depthAll, PyData.eqv, PyData.eqvAll, isi1M, kitB, tyD, slM, partM, noM, slP, listM, varM, letM, conM, opM, unM, caM, nilM, consM, tupM, lstM, boolM, andB, orB, notB, andV, orV, notV, ifM, seqS, nextS, breakS, contS, asgS, asgO, dropS, retS, retO, retN, ifS, appS, nameG, seqG, tupG, listI, tupI, seqI, enumI, callM, callE, callN, callB, raiseS, setS, isi1M, isi2M, truB, chainM, noM, partM, slM, lenOM, ixOM, tupOM, toldM, kwM, kwE, enumTI, enumSI, enumOI, yesB, opN, caN, asgG, lrgM, parS, consG, nilG, asgG, extS, seqD, bnd, bndS, bnd0, rho0, rhoB, denQ, denE, denN, denB, outQ, outE, outN, outB, i2, b2, addP, subP, modP, powP, ltP, leP, gtP, geP, isP, isNotP, isNoneP, ixP, negP, lenP, absP, intP, tupleP, listP, at?, truD], fin, _, _, rfl⟩
      | loop r b =>
        cases n with
        | zero => rw [fitR] at hx; exact hx.elim
        | succ n =>
          rw [fitR] at hx
          have e1 := ih n (by omega) b hx.2 k (by omega)
          have hr := hx.1
          have e9 : encs (unrs pre) ++ encs (List.replicate r (unrs b)).flatten = encs (unrs (pre ++ [Row.loop r b])) := by rw [unrs_append, unrs_one, unr, encs_append]
          rw [ifS_true (ρ' := [.fro (E rows), .own false (encs (unrs pre)), .fro (Row.loop r b).enc, dz]) (by simp [eqS, eqP, neS, neP, inP, notInP, flatD, SeqAt.shaped, PyData.canLay0, PyData.canLayAll0, PyData.depth, PyData.depthAll, PyData.eqv, PyData.eqvAll, isi1M, kitB, tyD, slM, partM, noM, slP, listM, varM, letM, conM, opM, unM, caM, nilM, consM, tupM, lstM, boolM, andB, orB, notB, andV, orV, notV, ifM, seqS, nextS, breakS, contS, asgS, asgO, dropS, retS, retO, retN, ifS, appS, nameG, seqG, tupG, listI, tupI, seqI, enumI, callM, callE, callN, callB, raiseS, setS, isi1M, isi2M, truB, chainM, noM, partM, slM, lenOM, ixOM, tupOM, toldM, kwM, kwE, enumTI, enumSI, enumOI, yesB, opN, caN, asgG, lrgM, parS, consG, nilG, asgG, extS, seqD, bnd, bndS, bnd0, rho0, rhoB, denQ, denE, denN, denB, outQ, outE, outN, outB, i2, b2, addP, subP, modP, powP, ltP, leP, gtP, geP, isP, isNotP, isNoneP, ixP, negP, lenP, absP, intP, tupleP, listP, at?, truD])]
          obtain ⟨ρ', g1, z, rfl⟩ := for_num (it := rng1M (consM (opM ixP (varM 2) (conM (.int 1))) nilM)) (tg := nameG 3) (body := extS 1 (callM 1 (F__law_plain k) (consM (opM ixP (varM 2) (conM (.int 2))) nilM))) (ρ1 := [.fro (E rows), .own false (encs (unrs pre)), .fro (Row.loop r b).enc, dz]) (ρ2 := [.fro (E rows), .own false (encs (unrs pre)), .fro (Row.loop r b).enc, dz]) (ds := rangeD 0 r) r (fun i ρ => ∃ z, ρ = [.fro (E rows), .own false (encs (unrs pre) ++ encs (List.replicate i (unrs b)).flatten), .fro (Row.loop r b).enc, z]) (rng1M_eq (by simp [eqS, eqP, neS, neP, inP, notInP, flatD, SeqAt.shaped, PyData.canLay0, PyData.canLayAll0, PyData.depth, PyData.depthAll, PyData.eqv, PyData.eqvAll, isi1M, kitB, tyD, slM, partM, noM, slP, listM, varM, letM, conM, opM, unM, caM, nilM, consM, tupM, lstM, boolM, andB, orB, notB, andV, orV, notV, ifM, seqS, nextS, breakS, contS, asgS, asgO, dropS, retS, retO, retN, ifS, appS, nameG, seqG, tupG, listI, tupI, seqI, enumI, callM, callE, callN, callB, raiseS, setS, isi1M, isi2M, truB, chainM, noM, partM, slM, lenOM, ixOM, tupOM, toldM, kwM, kwE, enumTI, enumSI, enumOI, yesB, opN, caN, asgG, lrgM, parS, consG, nilG, asgG, extS, seqD, bnd, bndS, bnd0, rho0, rhoB, denQ, denE, denN, denB, outQ, outE, outN, outB, i2, b2, addP, subP, modP, powP, ltP, leP, gtP, geP, isP, isNotP, isNoneP, ixP, negP, lenP, absP, intP, tupleP, listP, at?, truD]) (by omega)) (rangeD_length 0 r) ⟨dz, by simp [encs]⟩ (fun i dd ρ hi hρ => by
            obtain ⟨z, rfl⟩ := hρ
            have hl3 : (encs (unrs pre)).length + (encs (List.replicate i (unrs b)).flatten).length + (encs (unrs b)).length ≤ 100000 := by
              rw [encs_length, encs_length, encs_length, flat_len]
              have := hx.2.2
              have h5 : i * (unrs b).length ≤ 4 * 1000 := Nat.mul_le_mul (by omega) this
              omega
            refine step_of (ρ1 := [.fro (E rows), .own false (encs (unrs pre) ++ encs (List.replicate i (unrs b)).flatten), .fro (Row.loop r b).enc, .fro dd]) rfl ⟨[.fro (E rows), .own false (encs (unrs pre) ++ encs (List.replicate (i + 1) (unrs b)).flatten), .fro (Row.loop r b).enc, .fro dd], ?_, _, rfl⟩
            rw [flat_succ, encs_append, ← List.append_assoc]
            simp [e1, hl3, eqS, eqP, neS, neP, inP, notInP, flatD, SeqAt.shaped, PyData.canLay0, PyData.canLayAll0, PyData.depth, PyData.depthAll, PyData.eqv, PyData.eqvAll, isi1M, kitB, tyD, slM, partM, noM, slP, listM, varM, letM, conM, opM, unM, caM, nilM, consM, tupM, lstM, boolM, andB, orB, notB, andV, orV, notV, ifM, seqS, nextS, breakS, contS, asgS, asgO, dropS, retS, retO, retN, ifS, appS, nameG, seqG, tupG, listI, tupI, seqI, enumI, callM, callE, callN, callB, raiseS, setS, isi1M, isi2M, truB, chainM, noM, partM, slM, lenOM, ixOM, tupOM, toldM, kwM, kwE, enumTI, enumSI, enumOI, yesB, opN, caN, asgG, lrgM, parS, consG, nilG, asgG, extS, seqD, bnd, bndS, bnd0, rho0, rhoB, denQ, denE, denN, denB, outQ, outE, outN, outB, i2, b2, addP, subP, modP, powP, ltP, leP, gtP, geP, isP, isNotP, isNoneP, ixP, negP, lenP, absP, intP, tupleP, listP, at?, truD])
          rw [e9] at g1
          exact ⟨_, g1, fin, _, _, rfl⟩
    · obtain ⟨_, c, d, rfl⟩ := hR
      simp [letM, listM, varM, letM, conM, opM, unM, caM, nilM, consM, tupM, lstM, boolM, andB, orB, notB, andV, orV, notV, ifM, seqS, nextS, breakS, contS, asgS, asgO, dropS, retS, retO, retN, ifS, appS, nameG, seqG, tupG, listI, tupI, seqI, enumI, callM, callE, callN, callB, raiseS, setS, isi1M, isi2M, truB, chainM, noM, partM, slM, lenOM, ixOM, tupOM, toldM, kwM, kwE, enumTI, enumSI, enumOI, yesB, opN, caN, asgG, lrgM, parS, consG, nilG, asgG, extS, seqD, bnd, bndS, bnd0, rho0, rhoB, denQ, denE, denN, denB, outQ, outE, outN, outB, i2, b2, addP, subP, modP, powP, ltP, leP, gtP, geP, isP, isNotP, isNoneP, ixP, negP, lenP, absP, intP, tupleP, listP, at?, truD]
end K06

namespace K06
open PySem L2 Evl Pd Qt
structure okD (f : Fr) (d : List Nat) : Prop where
  len : d.length = f.regs + f.cells
  val : ∀ v ∈ d, v < f.size
theorem eqS_int (a b : Int) : eqS (.int a) (.int b) = some (.bool (decide (a = b))) := by
  have e : (a == b) = decide (a = b) := by
    by_cases h : a = b
    · rw [decide_eq_true h]; exact beq_iff_eq.mpr h
    · rw [decide_eq_false h]; exact beq_eq_false_iff_ne.mpr h
  simp [eqS, eqP, neS, neP, inP, notInP, flatD, SeqAt.shaped, PyData.canLay0, PyData.canLayAll0, PyData.depth, PyData.depthAll, PyData.eqv, PyData.eqvAll, isi1M, kitB, tyD, slM, partM, noM, slP, e]
end K06

namespace K06
open PySem L2 Evl Pd Qt
theorem Box.mono {m k : Nat} {bd : List PyData} (h : Box m bd) (hk : m ≤ k) : Box k bd := by
  obtain ⟨x, y, z, e, h1, h2, h3, h4, h5⟩ := h
  exact ⟨x, y, z, e, h1, h2, h3, h4, by omega⟩
theorem take_nat {m : Nat} {bd : List PyData} (hb : Box m bd) (hm : m < 100000) {many : Nat} (h1 : 0 < many) (h2 : many < 1000) :
    ∃ (d : Nat) (bd' : List PyData), F__law_take bd [N many] = some (N d, bd') ∧ Box (m + 1) bd' ∧ d < many := by
  obtain ⟨d, bd', e, hb', d0, d1⟩ := take_ok hb hm (many := many) (by omega) (by omega)
  obtain ⟨j, rfl⟩ := Int.eq_ofNat_of_zero_le d0
  exact ⟨j, bd', e, hb', by omega⟩
/-- a row of takes -/
theorem takes_aux {tl : Rho} {i b : Nat} {arg : DE} (hi : tl[i]? = some .no) (hb0 : 0 < b) (hb1 : b < 1000)
    (harg : ∀ bd s, arg (.own true bd :: tl.set i s) = some (.ok (N b) (.own true bd :: tl.set i s))) : ∀ (ds acc : List PyData) (m : Nat) (bd : List PyData), Box m bd → m + ds.length < 100000 → acc.length + ds.length ≤ 100000 →
    ∃ (l : List Nat) (bd' : List PyData), lcL (nameG (i + 1)) yesB (callB 1 0 F__law_take (consM arg nilM)) [i + 1] ds acc (.own true bd :: tl) = some (acc ++ l.map N, .own true bd' :: tl) ∧ Box (m + ds.length) bd' ∧ l.length = ds.length ∧ ∀ v ∈ l, v < b
  | [], acc, m, bd, hb, _, _ => ⟨[], bd, by rw [List.map_nil, List.append_nil]; rfl, hb, rfl, fun v hv => by cases hv⟩
  | d :: ds, acc, m, bd, hb, hm, ha => by
    have hset : tl.set i .no = tl := by
      refine List.ext_getElem? fun j => ?_
      by_cases h : j = i
      · subst h
        rw [List.getElem?_set_self (List.getElem?_eq_some_iff.mp hi).1, hi]
      · rw [List.getElem?_set_ne (Ne.symm h)]
    rw [List.length_cons] at hm ha
    obtain ⟨v, bd1, e1, hb1', hv⟩ := take_nat hb (by omega) hb0 hb1
    obtain ⟨l, bd2, e2, hb2, hl, hall⟩ := takes_aux hi hb0 hb1 harg ds (acc ++ [N v]) (m + 1) bd1 hb1' (by omega) (by rw [List.length_append, List.length_singleton]; omega)
    refine ⟨v :: l, bd2, ?_, by rw [List.length_cons, show m + (ds.length + 1) = m + 1 + ds.length by omega]; exact hb2, by rw [List.length_cons, List.length_cons, hl], fun w hw => (List.mem_cons.mp hw).elim (fun e => by rw [e]; exact hv) (hall w)⟩
    have e0 : nameG (i + 1) d (.own true bd :: tl) = some (.own true bd :: tl.set i (.fro d)) := rfl
    have e3 : callB 1 0 F__law_take (consM arg nilM) (.own true bd :: tl.set i (.fro d)) = some (.ok (N v) (.own true bd1 :: tl.set i (.fro d))) := by
      simp [callB, consM, nilM, bnd, harg, e1]
    have e4 : wipeR (.own true bd1 :: tl.set i (.fro d)) [i + 1] = .own true bd1 :: tl := by
      show (_ :: tl.set i (.fro d)).set (i + 1) .no = _
      rw [List.set_cons_succ, List.set_set, hset]
    rw [lcL, e0]
    show bnd0 (some (.ok true (.own true bd :: tl.set i (.fro d)))) _ = _
    rw [bnd0_ok, if_pos rfl, e3, bnd0_ok, if_pos (by omega), e4, e2, List.map_cons, List.append_assoc]
    rfl
theorem takes_ok {tl : Rho} {i b : Nat} {arg : DE} (j : Nat) (hj : j = i + 1) (hi : tl[i]? = some .no) (hb0 : 0 < b) (hb1 : b < 1000)
    (harg : ∀ bd s, arg (.own true bd :: tl.set i s) = some (.ok (N b) (.own true bd :: tl.set i s))) (n m : Nat) (bd : List PyData) (hb : Box m bd) (hm : m + n < 100000) :
    ∃ (l : List Nat) (bd' : List PyData), lcL (nameG j) yesB (callB 1 0 F__law_take (consM arg nilM)) [j] (rangeD 0 n) [] (.own true bd :: tl) = some (l.map N, .own true bd' :: tl) ∧ Box (m + n) bd' ∧ l.length = n ∧ ∀ v ∈ l, v < b := by
  subst hj
  have h := takes_aux hi hb0 hb1 harg (rangeD 0 n) [] m bd hb (by rw [rangeD_length]; exact hm) (by rw [rangeD_length, List.length_nil]; omega)
  rw [rangeD_length] at h
  exact h
theorem ret_tup {L : DL} {ρ ρ' : Rho} {ds : List PyData} (h : L ρ = some (.ok ds ρ')) : (retS (caM tupleP (consM (listM L) nilM))) ρ = some (.rt (.tuple ds) ρ') := by
  simp [retS, caM, consM, listM, nilM, bnd, bndS, tupleP, h]
theorem datum_N {f : Fr} (hf : f.Ok) {m : Nat} {bd : List PyData} (hb : Box m bd) (hm : m + 20 < 100000) :
    ∃ (d : List Nat) (bd' : List PyData), F__law_datum bd [f.enc] = some (T d, bd') ∧ Box (m + 20) bd' ∧ okD f d := by
  have hc : f.cells ≤ 3 := by rcases hf.cells with z | z <;> rcases hf.size with y | y <;> omega
  have hr := hf.regs
  have hs : 0 < f.size ∧ f.size < 1000 := by rcases hf.size with y | y <;> omega
  obtain ⟨l, bd', e1, hb', hl, hv⟩ := takes_ok 2 rfl (tl := [.fro f.enc, .no]) (i := 1) (b := f.size) (arg := opM ixP (varM 1) (conM (.int 0))) rfl hs.1 hs.2 (fun bd s => by
    have hfe : f.enc = .tuple [N f.size, N f.regs, N f.cells, .tuple (f.tabs.map T), N f.deep] := rfl
    rw [hfe]
    simp [listM, varM, letM, conM, opM, unM, caM, nilM, consM, tupM, lstM, boolM, andB, orB, notB, andV, orV, notV, ifM, seqS, nextS, breakS, contS, asgS, asgO, dropS, retS, retO, retN, ifS, appS, nameG, seqG, tupG, listI, tupI, seqI, enumI, callM, callE, callN, callB, raiseS, setS, isi1M, isi2M, truB, chainM, noM, partM, slM, lenOM, ixOM, tupOM, toldM, kwM, kwE, enumTI, enumSI, enumOI, yesB, opN, caN, asgG, lrgM, parS, consG, nilG, asgG, extS, seqD, bnd, bndS, bnd0, rho0, rhoB, denQ, denE, denN, denB, outQ, outE, outN, outB, i2, b2, modP, powP, ltP, leP, gtP, geP, isP, isNotP, isNoneP, negP, lenP, absP, intP, tupleP, listP, truD]) (f.regs + f.cells) m bd hb (by omega)
  refine ⟨l, bd', ?_, hb'.mono (by omega), hl, hv⟩
  have hfe : f.enc = .tuple [N f.size, N f.regs, N f.cells, .tuple (f.tabs.map T), N f.deep] := rfl
  rw [hfe] at e1 ⊢
  have e2 : addP (N f.regs) (N f.cells) = some (N (f.regs + f.cells)) := addP_N ..
  have e3 : (rng1M (consM (opM addP (opM ixP (varM 1) (conM (.int 1))) (opM ixP (varM 1) (conM (.int 2)))) nilM)) [.own true bd, .fro (.tuple [N f.size, N f.regs, N f.cells, .tuple (f.tabs.map T), N f.deep]), .no] = some (.ok (rangeD 0 (f.regs + f.cells)) [.own true bd, .fro (.tuple [N f.size, N f.regs, N f.cells, .tuple (f.tabs.map T), N f.deep]), .no]) :=
    rng1M_eq (by simp [e2, listM, varM, letM, conM, opM, unM, caM, nilM, consM, tupM, lstM, boolM, andB, orB, notB, andV, orV, notV, ifM, seqS, nextS, breakS, contS, asgS, asgO, dropS, retS, retO, retN, ifS, appS, nameG, seqG, tupG, listI, tupI, seqI, enumI, callM, callE, callN, callB, raiseS, setS, isi1M, isi2M, truB, chainM, noM, partM, slM, lenOM, ixOM, tupOM, toldM, kwM, kwE, enumTI, enumSI, enumOI, yesB, opN, caN, asgG, lrgM, parS, consG, nilG, asgG, extS, seqD, bnd, bndS, bnd0, rho0, rhoB, denQ, denE, denN, denB, outQ, outE, outN, outB, i2, b2, modP, powP, ltP, leP, gtP, geP, isP, isNotP, isNoneP, negP, lenP, absP, intP, tupleP, listP, truD]) (by omega)
  have e4 := lcM_eq e3 e1
  have e5 : wipeR [Sl.own true bd', .fro (.tuple [N f.size, N f.regs, N f.cells, .tuple (f.tabs.map T), N f.deep]), .no] [2] = [Sl.own true bd', .fro (.tuple [N f.size, N f.regs, N f.cells, .tuple (f.tabs.map T), N f.deep]), .no] := rfl
  rw [e5] at e4
  show ((den__law_datum F__law_take) [Sl.own true bd, .fro (.tuple [N f.size, N f.regs, N f.cells, .tuple (f.tabs.map T), N f.deep]), .no]).bind outB = _
  unfold den__law_datum
  rw [ret_tup e4]
  rfl
end K06

/-! one step at a time, the slots a letter -/
namespace Pd
open PySem L2 Evl
section
variable {ρ ρ1 ρ2 ρ3 : Rho} {f g : DE} {fl : DL} {a b c d : PyData} {as ds : List PyData} {op : PyData → PyData → Option PyData} {op1 : List PyData → Option PyData} {i n : Nat} {t : Bool}
theorem opM_eq (h1 : f ρ = some (.ok a ρ1)) (h2 : g ρ1 = some (.ok b ρ2)) (h3 : op a b = some c) : opM op f g ρ = some (.ok c ρ2) := by
  simp [opM, bnd, h1, h2, h3]
theorem caM_eq (h1 : fl ρ = some (.ok as ρ1)) (h2 : op1 as = some d) : caM op1 fl ρ = some (.ok d ρ1) := by
  simp [caM, bnd, h1, h2]
theorem consM_eq (h1 : f ρ = some (.ok a ρ1)) (h2 : fl ρ1 = some (.ok as ρ2)) : consM f fl ρ = some (.ok (a :: as) ρ2) := by
  simp [consM, bnd, h1, h2]
theorem nilM_eq : nilM ρ = some (.ok [] ρ) := rfl
theorem one_eq (h1 : f ρ = some (.ok a ρ1)) : consM f nilM ρ = some (.ok [a] ρ1) := consM_eq h1 nilM_eq
theorem listM_eq (h1 : fl ρ = some (.ok as ρ1)) : listM fl ρ = some (.ok (.list as) ρ1) := by
  simp [listM, bnd, h1]
theorem lstM_eq (h1 : fl ρ = some (.ok as ρ1)) (hl : as.length ≤ 100000) : lstM fl ρ = some (.ok as ρ1) := by
  unfold lstM
  rw [h1, bnd_ok, if_pos hl]
theorem tupM_eq (h1 : fl ρ = some (.ok as ρ1)) (hl : as.length ≤ 100000) : tupM fl ρ = some (.ok (.tuple as) ρ1) := by
  unfold tupM
  rw [h1, bnd_ok, if_pos hl]
theorem conM_eq : conM d ρ = some (.ok d ρ) := rfl
theorem varM_eq (h : ρ[i]? = some (.fro d)) : varM i ρ = some (.ok d ρ) := by
  unfold varM
  rw [h]
theorem boolM_eq {b : Bool} (h : f ρ = some (.ok (.bool b) ρ1)) : boolM f ρ = some (.ok b ρ1) := by
  simp [boolM, bnd, h]
theorem asgS_eq (h : f ρ = some (.ok d ρ1)) : asgS i f ρ = some (.nx (ρ1.set i (.fro d))) := by
  simp [asgS, bndS, h]
theorem asgO_eq (h : fl ρ = some (.ok ds ρ1)) : asgO i fl ρ = some (.nx (ρ1.set i (.own false ds))) := by
  simp [asgO, bndS, h]
theorem retS_eq (h : f ρ = some (.ok d ρ1)) : retS f ρ = some (.rt d ρ1) := by
  simp [retS, bndS, h]
theorem appS_eq {t0 : Bool} {ds0 : List PyData} (h0 : ρ[i]? = some (.own t0 ds0)) (h : f ρ = some (.ok d ρ1)) (h1 : ρ1[i]? = some (.own t ds)) (hl : ds.length < 100000) : appS i f ρ = some (.nx (ρ1.set i (.own t (ds ++ [d])))) := by
  unfold appS
  rw [h0]
  show bndS (f ρ) _ = _
  rw [h]
  show (match ρ1[i]? with | some (.own t ds) => _ | _ => none) = _
  rw [h1]
  show (if _ then _ else _) = _
  rw [if_pos hl]
theorem callM_eq {fn : FnQ} (h1 : fl ρ = some (.ok as ρ1)) (hn : as.length = n) (h2 : fn as = some d) : callM n fn fl ρ = some (.ok d ρ1) := by
  unfold callM
  rw [h1, bnd_ok, if_pos hn, h2]
  rfl
theorem callE_eq {fn : FnE} (h1 : fl ρ = some (.ok as ρ1)) (hn : as.length = n) (h2 : fn as = some (.ok d)) : callE n fn fl ρ = some (.ok d ρ1) := by
  unfold callE
  rw [h1, bnd_ok, if_pos hn, h2]
  rfl
/-- the box stands first -/
theorem callB_eq {fn : FnB} {bd bd1 bd2 : List PyData} {tl tl1 : Rho} (h1 : fl (.own true bd :: tl) = some (.ok as (.own true bd1 :: tl1))) (hn : as.length = n) (h2 : fn bd1 as = some (d, bd2)) : callB n 0 fn fl (.own true bd :: tl) = some (.ok d (.own true bd2 :: tl1)) := by
  show bnd (fl (.own true bd :: tl)) _ = _
  rw [h1, bnd_ok]
  show (if _ then _ else _) = _
  rw [if_pos hn, h2]
  rfl
theorem tupOM_eq (h : ρ[i]? = some (.own t ds)) : tupOM i ρ = some (.ok (.tuple ds) ρ) := by
  simp [tupOM, h]
theorem seqS_rt {f g : DS} (h : f ρ = some (.nx ρ1)) : seqS f g ρ = g ρ1 := seqS_nx h
end
end Pd

namespace K06
open PySem L2 Evl Pd Qt
theorem div4 (d : Nat) : divP (N d) (.int 4) = some (N (d / 4)) := by
  rw [div_ok (d : Int) 4 (by decide) (by decide)]
  rfl
theorem pow2 {s : Nat} (h : s = 2 ∨ s = 3) : powP (N s) (.int 2) = some (N (s * s)) := by
  rcases h with rfl | rfl <;> rfl
theorem frame_N {m : Nat} {bd : List PyData} (hb : Box m bd) (hm : m + 100 < 100000) :
    ∃ (f : Fr) (bd' : List PyData), F__law_frame bd [] = some (f.enc, bd') ∧ Box (m + 100) bd' ∧ f.Ok ∧ f.tabs ≠ [] := by
  obtain ⟨q, bd1, e1, hb1, hq⟩ := take_nat hb (by omega) (many := 5) (by decide) (by decide)
  obtain ⟨s, hs⟩ : ∃ s, s = 2 + q / 4 := ⟨_, rfl⟩
  have hs23 : s = 2 ∨ s = 3 := by omega
  obtain ⟨tn, bd2, e2, hb2, htn⟩ := take_nat hb1 (by omega) (many := 2) (by decide) (by decide)
  have st1 : (asgS 1 (opM addP (conM (.int 2)) (opM divP (callB 1 0 F__law_take (consM (conM (.int 5)) nilM)) (conM (.int 4))))) [.own true bd, .no, .no, .no, .no] = some (.nx [.own true bd1, .fro (N s), .no, .no, .no]) := by
    have := asgS_eq (i := 1) (opM_eq (op := addP) (c := N s) (conM_eq (d := .int 2) (ρ := [.own true bd, .no, .no, .no, .no])) (opM_eq (op := divP) (callB_eq (fn := F__law_take) (one_eq (conM_eq (d := .int 5))) rfl e1) (conM_eq (d := .int 4)) (div4 q)) (by rw [hs]; exact addP_N 2 (q / 4)))
    exact this
  have it1 : (consM (opM addP (conM (.int 1)) (callB 1 0 F__law_take (consM (conM (.int 2)) nilM))) nilM) [.own true bd1, .fro (N s), .own false [], .no, .no] = some (.ok [N (1 + tn)] [.own true bd2, .fro (N s), .own false [], .no, .no]) :=
    one_eq (opM_eq (op := addP) conM_eq (callB_eq (fn := F__law_take) (one_eq conM_eq) rfl e2) (addP_N 1 tn))
  obtain ⟨ρ', g1, bd3, tabs, s3, hb3, rfl, htl, htv⟩ := for_num (it := rng1M (consM (opM addP (conM (.int 1)) (callB 1 0 F__law_take (consM (conM (.int 2)) nilM))) nilM)) (tg := nameG 3) (body := appS 2 (caM tupleP (consM (listM (lcM (rng1M (consM (opM powP (varM 1) (conM (.int 2))) nilM)) (nameG 4) yesB (callB 1 0 F__law_take (consM (varM 1) nilM)) [4])) nilM)))
    (ρ1 := [.own true bd1, .fro (N s), .own false [], .no, .no]) (ρ2 := [.own true bd2, .fro (N s), .own false [], .no, .no]) (ds := rangeD 0 (1 + tn)) (1 + tn)
    (fun i ρ => ∃ bdi tabs s3, Box (m + 2 + 9 * i) bdi ∧ ρ = [.own true bdi, .fro (N s), .own false (List.map T tabs), s3, .no] ∧ tabs.length = i ∧ ∀ t ∈ tabs, t.length = s * s ∧ ∀ v ∈ t, v < s) (rng1M_eq it1 (by omega)) (rangeD_length 0 _) ⟨bd2, [], .no, hb2, rfl, rfl, fun t ht => by cases ht⟩ (fun i dv ρ hi hR => by
      obtain ⟨bdi, tabs, s3, hbi, rfl, hl, hv⟩ := hR
      have hss : s * s ≤ 9 := by rcases hs23 with rfl | rfl <;> decide
      obtain ⟨l, bdj, e3, hbj, hll, hlv⟩ := takes_ok 4 rfl (tl := [.fro (N s), .own false (List.map T tabs), .fro dv, .no]) (i := 3) (b := s) (arg := varM 1) rfl (by omega) (by omega) (fun bd s => rfl) (s * s) (m + 2 + 9 * i) bdi hbi (by omega)
      have e4 : (rng1M (consM (opM powP (varM 1) (conM (.int 2))) nilM)) [.own true bdi, .fro (N s), .own false (List.map T tabs), .fro dv, .no] = some (.ok (rangeD 0 (s * s)) [.own true bdi, .fro (N s), .own false (List.map T tabs), .fro dv, .no]) := rng1M_eq (one_eq (opM_eq (op := powP) (varM_eq (d := N s) rfl) conM_eq (pow2 hs23))) (by omega)
      have e5 := lcM_eq e4 e3
      have e6 : caM tupleP (consM (listM (lcM (rng1M (consM (opM powP (varM 1) (conM (.int 2))) nilM)) (nameG 4) yesB (callB 1 0 F__law_take (consM (varM 1) nilM)) [4])) nilM) [.own true bdi, .fro (N s), .own false (List.map T tabs), .fro dv, .no] = some (.ok (T l) [.own true bdj, .fro (N s), .own false (List.map T tabs), .fro dv, .no]) := caM_eq (one_eq (listM_eq e5)) rfl
      refine step_of (ρ1 := [.own true bdi, .fro (N s), .own false (List.map T tabs), .fro dv, .no]) rfl ⟨_, appS_eq rfl e6 rfl (by rw [List.length_map]; omega), bdj, tabs ++ [l], .fro dv, hbj.mono (by omega), ?_, by rw [List.length_append, hl]; rfl, fun t ht => ?_⟩
      · rw [List.map_append]
        rfl
      · rcases List.mem_append.mp ht with ht | ht
        · exact hv t ht
        · rw [List.mem_singleton.mp ht]; exact ⟨hll, hlv⟩)
  obtain ⟨rg, bd4, e7, hb4, hrg⟩ := take_nat hb3 (by omega) (many := 2) (by decide) (by decide)
  obtain ⟨cd, bd5, e8, hb5, hcd⟩ := pick_ok hb4 (by omega) [.int 0, N s] (by simp) (by simp)
  obtain ⟨dp, bd6, e9, hb6, hdp⟩ := take_nat hb5 (by omega) (many := 3) (by decide) (by decide)
  obtain ⟨c, hc, hcv⟩ : ∃ c : Nat, cd = N c ∧ (c = 0 ∨ c = s) := by
    rcases List.mem_cons.mp hcd with h | h
    · exact ⟨0, h, .inl rfl⟩
    · exact ⟨s, List.mem_singleton.mp h, .inr rfl⟩
  subst hc
  refine ⟨⟨s, 1 + rg, c, tabs, dp⟩, bd6, ?_, hb6.mono (by omega), ⟨hs23, ⟨by show 1 ≤ 1 + rg; omega, by show 1 + rg ≤ 4; omega⟩, hcv, by show tabs.length ≤ 4; omega, htv, by show dp ≤ 3; omega⟩, fun z => by
    have : tabs = [] := z
    rw [this] at htl
    simp at htl
    omega⟩
  show ((den__law_frame F__law_pick F__law_take) [.own true bd, .no, .no, .no, .no]).bind outB = _
  unfold den__law_frame
  rw [seqS_nx st1, seqS_nx (ρ' := [.own true bd1, .fro (N s), .own false [], .no, .no]) rfl, seqS_nx g1]
  have r1 := callB_eq (fn := F__law_take) (n := 1) (one_eq (conM_eq (d := .int 2) (ρ := [.own true bd3, .fro (N s), .own false (List.map T tabs), s3, .no]))) rfl e7
  have r2 : callB 1 0 F__law_pick (consM (listM (lstM (consM (conM (.int 0)) (consM (varM 1) nilM)))) nilM) [.own true bd4, .fro (N s), .own false (List.map T tabs), s3, .no] = some (.ok (N c) [.own true bd5, .fro (N s), .own false (List.map T tabs), s3, .no]) := callB_eq (one_eq (listM_eq (lstM_eq (consM_eq conM_eq (one_eq (varM_eq rfl))) (by simp)))) rfl e8
  have r3 := callB_eq (fn := F__law_take) (n := 1) (one_eq (conM_eq (d := .int 3) (ρ := [.own true bd5, .fro (N s), .own false (List.map T tabs), s3, .no]))) rfl e9
  have r4 := retS_eq (tupM_eq (consM_eq (varM_eq (i := 1) (d := N s) rfl) (consM_eq (opM_eq (op := addP) (conM_eq (d := .int 1)) r1 (addP_N 1 rg)) (consM_eq r2 (consM_eq (tupOM_eq (i := 2) rfl) (one_eq r3))))) (by simp))
  rw [r4]
  rfl
end K06

namespace K06
open PySem L2 Evl Pd Qt
/-! ### small programs -/
def okB (f : Fr) (b : Nat) : Nat → Row → Prop
  | n + 1, .fork r l m => r < f.regs ∧ (l.length ≤ b ∧ ∀ x ∈ l, okB f b n x) ∧ (m.length ≤ b ∧ ∀ x ∈ m, okB f b n x)
  | n + 1, .loop k l => k ≤ 2 ∧ (l.length ≤ b ∧ ∀ x ∈ l, okB f b n x)
  | 0, .fork _ _ _ => False
  | 0, .loop _ _ => False
  | _, .op t d a c => okR f 0 (.op t d a c)
  | _, .load d a => okR f 0 (.load d a)
  | _, .store d a => okR f 0 (.store d a)
  | _, .fence => True
theorem okB_R {f : Fr} {b : Nat} (hb : b ≤ 1000) : ∀ (n : Nat) (x : Row), okB f b n x → okR f n x
  | n + 1, .fork r l m, h => by
    rw [okB] at h
    rw [okR]
    exact ⟨h.1, ⟨by omega, fun x hx => okB_R hb n x (h.2.1.2 x hx)⟩, ⟨by omega, fun x hx => okB_R hb n x (h.2.2.2 x hx)⟩⟩
  | n + 1, .loop k l, h => by
    rw [okB] at h
    rw [okR]
    exact ⟨by omega, ⟨by omega, fun x hx => okB_R hb n x (h.2.2 x hx)⟩⟩
  | 0, .fork _ _ _, h => by rw [okB] at h; exact h.elim
  | 0, .loop _ _, h => by rw [okB] at h; exact h.elim
  | n, .op t d a c, h => by rw [okB, okR] at h; rw [okR]; exact h
  | n, .load d a, h => by rw [okB, okR] at h; rw [okR]; exact h
  | n, .store d a, h => by rw [okB, okR] at h; rw [okR]; exact h
  | n, .fence, h => by rw [okR]; trivial
/-- how many steps at most -/
def cB : Nat → Nat
  | 0 => 1
  | n + 1 => 8 * cB n
theorem cB_pos : ∀ n, 1 ≤ cB n
  | 0 => Nat.le_refl _
  | n + 1 => by
    have := cB_pos n
    rw [cB]
    omega
mutual
theorem unr_len {f : Fr} {b : Nat} (hb : b ≤ 4) : ∀ (n : Nat) (x : Row), okB f b n x → (unr x).length ≤ cB n
  | n + 1, .loop k l, h => by
    rw [okB] at h
    have h1 := unrs_len hb n l h.2.2
    rw [unr, flat_len, cB]
    have h2 : l.length * cB n ≤ 4 * cB n := Nat.mul_le_mul_right _ (by omega)
    have h3 : k * (unrs l).length ≤ 2 * (4 * cB n) := Nat.mul_le_mul (by omega) (by omega)
    omega
  | 0, .fork _ _ _, h => by rw [okB] at h; exact h.elim
  | 0, .loop _ _, h => by rw [okB] at h; exact h.elim
  | n + 1, .fork r l m, h => by rw [unr]; exact cB_pos _
  | n, .op t d a c, h => by rw [unr]; exact cB_pos n
  | n, .load d a, h => by rw [unr]; exact cB_pos n
  | n, .store d a, h => by rw [unr]; exact cB_pos n
  | n, .fence, h => by rw [unr]; exact cB_pos n
theorem unrs_len {f : Fr} {b : Nat} (hb : b ≤ 4) : ∀ (n : Nat) (rows : List Row), (∀ x ∈ rows, okB f b n x) → (unrs rows).length ≤ rows.length * cB n
  | n, [], _ => by rw [unrs_nil]; exact Nat.zero_le _
  | n, x :: xs, h => by
    have h1 := unr_len hb n x (h x List.mem_cons_self)
    have h2 := unrs_len hb n xs fun y hy => h y (List.mem_cons_of_mem _ hy)
    rw [unrs_cons, List.length_append, List.length_cons, Nat.add_mul, Nat.one_mul]
    omega
end
theorem okB_fit {f : Fr} {b : Nat} (hb : b ≤ 4) : ∀ (n : Nat), n ≤ 2 → ∀ (x : Row), okB f b n x → fitR n x
  | n + 1, hn, .fork r l m, h => by
    rw [okB] at h
    rw [fitR]
    have c1 : cB n ≤ 8 := by
      have : n = 0 ∨ n = 1 := by omega
      rcases this with rfl | rfl <;> decide
    have h1 := unrs_len hb n l h.2.1.2
    have h2 := unrs_len hb n m h.2.2.2
    have h3 : l.length * cB n ≤ 4 * 8 := Nat.mul_le_mul (by omega) c1
    have h4 : m.length * cB n ≤ 4 * 8 := Nat.mul_le_mul (by omega) c1
    exact ⟨⟨fun x hx => okB_fit hb n (by omega) x (h.2.1.2 x hx), by omega⟩, fun x hx => okB_fit hb n (by omega) x (h.2.2.2 x hx), by omega⟩
  | n + 1, hn, .loop k l, h => by
    rw [okB] at h
    rw [fitR]
    have c1 : cB n ≤ 8 := by
      have : n = 0 ∨ n = 1 := by omega
      rcases this with rfl | rfl <;> decide
    have h1 := unrs_len hb n l h.2.2
    have h3 : l.length * cB n ≤ 4 * 8 := Nat.mul_le_mul (by omega) c1
    exact ⟨by omega, fun x hx => okB_fit hb n (by omega) x (h.2.2 x hx), by omega⟩
  | 0, _, .fork _ _ _, h => by rw [okB] at h; exact h.elim
  | 0, _, .loop _ _, h => by rw [okB] at h; exact h.elim
  | n, _, .op t d a c, h => by rw [fitR]; trivial
  | n, _, .load d a, h => by rw [fitR]; trivial
  | n, _, .store d a, h => by rw [fitR]; trivial
  | n, _, .fence, h => by rw [fitR]; trivial
end K06

namespace Pd
open PySem L2 Evl
section
variable {ρ ρ1 ρ2 ρ3 : Rho} {f g : DE} {t u : DB} {b : Bool} {d e : PyData}
theorem orB_t (h : t ρ = some (.ok true ρ1)) : orB t u ρ = some (.ok true ρ1) := by
  unfold orB; rw [h, bnd_ok]; rfl
theorem orB_f (h : t ρ = some (.ok false ρ1)) : orB t u ρ = u ρ1 := by
  unfold orB; rw [h, bnd_ok]; rfl
theorem andB_t (h : t ρ = some (.ok true ρ1)) : andB t u ρ = u ρ1 := by
  unfold andB; rw [h, bnd_ok]; rfl
theorem andB_f (h : t ρ = some (.ok false ρ1)) : andB t u ρ = some (.ok false ρ1) := by
  unfold andB; rw [h, bnd_ok]; rfl
theorem ifM_t (h : t ρ = some (.ok true ρ1)) : ifM t f g ρ = f ρ1 := by
  unfold ifM; rw [h, bnd_ok]; rfl
theorem ifM_f (h : t ρ = some (.ok false ρ1)) : ifM t f g ρ = g ρ1 := by
  unfold ifM; rw [h, bnd_ok]; rfl
theorem slM_hi {i : Int} (h : f ρ = some (.ok d ρ1)) (h2 : slP d none (some i) = some e) : slM f noM (partM (conM (.int i))) ρ = some (.ok e ρ1) := by
  unfold slM
  rw [h, bnd_ok]
  show bnd (noM ρ1) _ = _
  have h3 : noM ρ1 = some (.ok none ρ1) := rfl
  rw [h3, bnd_ok]
  have h4 : partM (conM (.int i)) ρ1 = some (.ok (some i) ρ1) := rfl
  rw [h4, bnd_ok, h2]
  rfl
theorem slM_var {f2 : DE} {i : Int} (h : f ρ = some (.ok d ρ1)) (h1 : f2 ρ1 = some (.ok (.int i) ρ2)) (h2 : slP d none (some i) = some e) : slM f noM (partM f2) ρ = some (.ok e ρ2) := by
  unfold slM
  rw [h, bnd_ok]
  show bnd (noM ρ1) _ = _
  have h3 : noM ρ1 = some (.ok none ρ1) := rfl
  rw [h3, bnd_ok]
  have h4 : partM f2 ρ1 = some (.ok (some i) ρ2) := by
    unfold partM
    rw [h1, bnd_ok]
  rw [h4, bnd_ok, h2]
  rfl
theorem ltP_c {ρ : Rho} {i : Nat} {k : Nat} {c : Int} (hv : ρ[i]? = some (.fro (.int (k : Int)))) (h : decide ((k : Int) < c) = b) : boolM (opM ltP (varM i) (conM (.int c))) ρ = some (.ok b ρ) :=
  boolM_eq (opM_eq (varM_eq hv) conM_eq (by rw [← h]; rfl))
theorem gtP_c {ρ : Rho} {i : Nat} {k : Nat} {c : Int} (hv : ρ[i]? = some (.fro (.int (k : Int)))) (h : decide (c < (k : Int)) = b) : boolM (opM gtP (varM i) (conM (.int c))) ρ = some (.ok b ρ) :=
  boolM_eq (opM_eq (varM_eq hv) conM_eq (by rw [← h]; rfl))
theorem for_numE {β : Type} {A Rst body : DS} {it : DL} {tg : DG} {ρ0 ρ1 ρ2 : Rho} {ds : List PyData} {out : Oc → Option β} {Q : β → Prop} (tot : Nat) (R : Nat → Rho → Prop)
    (h1 : A ρ0 = some (.nx ρ1)) (h2 : it ρ1 = some (.ok ds ρ2)) (hl : ds.length = tot) (h3 : R 0 ρ2)
    (st : ∀ (i : Nat) (d : PyData) (ρ : Rho), i < tot → R i ρ → ∃ ρ1 ρ2, tg d ρ = some ρ1 ∧ body ρ1 = some (.nx ρ2) ∧ R (i + 1) ρ2)
    (h5 : ∀ ρ, R tot ρ → ∃ r, (Rst ρ).bind out = some r ∧ Q r) : ∃ r, ((seqS A (seqS (forS it tg body) Rst)) ρ0).bind out = some r ∧ Q r := by
  obtain ⟨ρ', h6, h7⟩ := for_num tot R h2 hl h3 st
  obtain ⟨r, e, q⟩ := h5 ρ' h7
  exact ⟨r, by rw [seqS_nx h1, seqS_nx h6]; exact e, q⟩
/-- a loop within a row of statements -/
theorem for_numS {Rst body : DS} {it : DL} {tg : DG} {ρ1 ρ2 : Rho} {ds : List PyData} {Q : Option Oc → Prop} (tot : Nat) (R : Nat → Rho → Prop)
    (h2 : it ρ1 = some (.ok ds ρ2)) (hl : ds.length = tot) (h3 : R 0 ρ2)
    (st : ∀ (i : Nat) (d : PyData) (ρ : Rho), i < tot → R i ρ → ∃ ρ1 ρ2, tg d ρ = some ρ1 ∧ body ρ1 = some (.nx ρ2) ∧ R (i + 1) ρ2)
    (h5 : ∀ ρ, R tot ρ → Q (Rst ρ)) : Q ((seqS (forS it tg body) Rst) ρ1) := by
  obtain ⟨ρ', h6, h7⟩ := for_num tot R h2 hl h3 st
  rw [seqS_nx h6]
  exact h5 ρ' h7
end
end Pd

namespace K06
open PySem L2 Evl Pd Qt
/-! ### drawn rows -/
abbrev stp (bd acc : List PyData) (f : Fr) (mn dp : Nat) (dv nm : PyData) (kd : Nat) : Rho := [.own true bd, .fro f.enc, .fro (N mn), .fro (N dp), .own false acc, .fro dv, .fro nm, .no, .fro (N kd)]
abbrev L3 (a b c : Nat) : PyData := .list [N a, N b, N c]
section
variable {bd bd1 acc : List PyData} {f : Fr} {mn dp kd : Nat} {dv nm : PyData} {a b c t : Nat}
theorem rr_nm {j : Nat} {i : Int} {v : PyData} (h : ixP (.list [N a, N b, N c]) (.int i) = some v) : opM ixP (varM 6) (conM (.int i)) (stp bd acc f mn dp dv (L3 a b c) kd) = some (.ok v (stp bd acc f mn dp dv (L3 a b c) kd)) :=
  opM_eq (varM_eq rfl) conM_eq h
theorem i0 : ixP (.list [N a, N b, N c]) (.int 0) = some (N a) := ix_natL (i := 0) rfl
theorem i1 : ixP (.list [N a, N b, N c]) (.int 1) = some (N b) := ix_natL (i := 1) rfl
theorem rr_op (e : F__law_take bd [N f.tabs.length] = some (N t, bd1)) (hl : acc.length < 100000) :
    appS 4 (opM addP (tupM (consM (conM (.str "op")) (consM (callB 1 0 F__law_take (consM (caM lenP (consM (opM ixP (varM 1) (conM (.int 3))) nilM)) nilM)) nilM))) (caM tupleP (consM (varM 6) nilM))) (stp bd acc f mn dp dv (L3 a b c) kd) =
      some (.nx (stp bd1 (acc ++ [(Row.op t a b c).enc]) f mn dp dv (L3 a b c) kd)) := by
  have h0 : ixP f.enc (.int 3) = some (.tuple (f.tabs.map T)) := ix3
  have h1 : lenP [.tuple (f.tabs.map T)] = some (N f.tabs.length) := by
    show some (PyData.int (((f.tabs.map T).length : Nat) : Int)) = _
    rw [List.length_map]
  have h2 : callB 1 0 F__law_take (consM (caM lenP (consM (opM ixP (varM 1) (conM (.int 3))) nilM)) nilM) (stp bd acc f mn dp dv (L3 a b c) kd) = some (.ok (N t) (stp bd1 acc f mn dp dv (L3 a b c) kd)) :=
    callB_eq (one_eq (caM_eq (one_eq (opM_eq (varM_eq rfl) conM_eq h0)) h1)) rfl e
  rw [enc_op]
  exact appS_eq rfl (opM_eq (tupM_eq (consM_eq conM_eq (one_eq h2)) (by simp)) (caM_eq (one_eq (varM_eq rfl)) rfl) (add_tup (x := [.str "op", N t]) (y := [N a, N b, N c]) (by simp))) rfl hl
theorem rr_ls {w : Str} {e : PyData} (hw : opM subP (varM 8) (conM (.int 3)) (stp bd acc f mn dp dv (L3 a b c) kd) = some (.ok e (stp bd acc f mn dp dv (L3 a b c) kd))) (hi : ixP (.list [.str "load", .str "store"]) e = some (.str w)) (hl : acc.length < 100000) :
    appS 4 (opM addP (tupM (consM (opM ixP (listM (lstM (consM (conM (.str "load")) (consM (conM (.str "store")) nilM)))) (opM subP (varM 8) (conM (.int 3)))) nilM)) (caM tupleP (consM (slM (varM 6) noM (partM (conM (.int 2)))) nilM))) (stp bd acc f mn dp dv (L3 a b c) kd) =
      some (.nx (stp bd (acc ++ [.tuple [.str w, N a, N b]]) f mn dp dv (L3 a b c) kd)) := by
  have h1 : slP (L3 a b c) none (some 2) = some (.list [N a, N b]) := congrArg (fun l => some (PyData.list l)) (cut_take [N a, N b, N c] 2)
  exact appS_eq rfl (opM_eq (tupM_eq (one_eq (opM_eq (listM_eq (lstM_eq (consM_eq conM_eq (one_eq conM_eq)) (by simp))) hw hi)) (by simp)) (caM_eq (one_eq (slM_hi (varM_eq rfl) h1)) rfl) (add_tup (x := [.str w]) (y := [N a, N b]) (by simp))) rfl hl
theorem rr_5 (hk : kd = 5) (hl : acc.length < 100000) :
    appS 4 (ifM (boolM (opM eqS (varM 8) (conM (.int 5)))) (tupM (consM (conM (.str "fence")) nilM)) (tupM (consM (conM (.str "op")) (consM (conM (.int 0)) (consM (opM ixP (varM 6) (conM (.int 0))) (consM (opM ixP (varM 6) (conM (.int 1))) (consM (opM ixP (varM 6) (conM (.int 1))) nilM))))))) (stp bd acc f mn dp dv (L3 a b c) kd) =
      some (.nx (stp bd (acc ++ [Row.fence.enc]) f mn dp dv (L3 a b c) kd)) := by
  subst hk
  rw [enc_fence]
  exact appS_eq rfl ((ifM_t (ρ1 := stp bd acc f mn dp dv (L3 a b c) 5) (boolM_eq (opM_eq (varM_eq rfl) conM_eq (eqS_int 5 5)))).trans (tupM_eq (one_eq conM_eq) (by simp))) rfl hl
theorem rr_6 (hk : kd = 6) (hl : acc.length < 100000) :
    appS 4 (ifM (boolM (opM eqS (varM 8) (conM (.int 5)))) (tupM (consM (conM (.str "fence")) nilM)) (tupM (consM (conM (.str "op")) (consM (conM (.int 0)) (consM (opM ixP (varM 6) (conM (.int 0))) (consM (opM ixP (varM 6) (conM (.int 1))) (consM (opM ixP (varM 6) (conM (.int 1))) nilM))))))) (stp bd acc f mn dp dv (L3 a b c) kd) =
      some (.nx (stp bd (acc ++ [(Row.op 0 a b b).enc]) f mn dp dv (L3 a b c) kd)) := by
  subst hk
  rw [enc_op]
  exact appS_eq rfl ((ifM_f (ρ1 := stp bd acc f mn dp dv (L3 a b c) 6) (boolM_eq (opM_eq (varM_eq rfl) conM_eq (eqS_int 6 5)))).trans (tupM_eq (consM_eq conM_eq (consM_eq conM_eq (consM_eq (opM_eq (varM_eq rfl) conM_eq i0) (consM_eq (opM_eq (varM_eq rfl) conM_eq i1) (one_eq (opM_eq (varM_eq rfl) conM_eq i1)))))) (by simp))) rfl hl
theorem sub1 : subP (N (dp + 1)) (.int 1) = some (N dp) := by
  show some (PyData.int (((dp + 1 : Nat) : Int) - 1)) = _
  rw [show (((dp + 1 : Nat) : Int) - 1) = (dp : Int) by omega]
theorem rr_call {fn : FnB} {bd2 : List PyData} {j : Nat} {rows : List Row} (e1 : F__law_take bd [.int 3] = some (N j, bd1)) (e2 : fn bd1 [f.enc, N j, N dp] = some (E rows, bd2)) :
    callB 3 0 fn (consM (varM 1) (consM (callB 1 0 F__law_take (consM (conM (.int 3)) nilM)) (consM (opM subP (varM 3) (conM (.int 1))) nilM))) (stp bd acc f mn (dp + 1) dv (L3 a b c) kd) = some (.ok (E rows) (stp bd2 acc f mn (dp + 1) dv (L3 a b c) kd)) :=
  callB_eq (consM_eq (varM_eq rfl) (consM_eq (callB_eq (one_eq conM_eq) rfl e1) (one_eq (opM_eq (varM_eq rfl) conM_eq sub1)))) rfl e2
theorem rr_fork {fn : FnB} {bd2 bd3 bd4 : List PyData} {j1 j2 : Nat} {r1 r2 : List Row} (e1 : F__law_take bd [.int 3] = some (N j1, bd1)) (e2 : fn bd1 [f.enc, N j1, N dp] = some (E r1, bd2)) (e3 : F__law_take bd2 [.int 3] = some (N j2, bd3)) (e4 : fn bd3 [f.enc, N j2, N dp] = some (E r2, bd4)) (hl : acc.length < 100000) :
    appS 4 (tupM (consM (conM (.str "fork")) (consM (opM ixP (varM 6) (conM (.int 0))) (consM (callB 3 0 fn (consM (varM 1) (consM (callB 1 0 F__law_take (consM (conM (.int 3)) nilM)) (consM (opM subP (varM 3) (conM (.int 1))) nilM)))) (consM (callB 3 0 fn (consM (varM 1) (consM (callB 1 0 F__law_take (consM (conM (.int 3)) nilM)) (consM (opM subP (varM 3) (conM (.int 1))) nilM)))) nilM))))) (stp bd acc f mn (dp + 1) dv (L3 a b c) kd) =
      some (.nx (stp bd4 (acc ++ [(Row.fork a r1 r2).enc]) f mn (dp + 1) dv (L3 a b c) kd)) := by
  rw [enc_fork]
  exact appS_eq rfl (tupM_eq (consM_eq conM_eq (consM_eq (opM_eq (varM_eq rfl) conM_eq i0) (consM_eq (rr_call e1 e2) (one_eq (rr_call e3 e4))))) (by simp)) rfl hl
theorem rr_loop {fn : FnB} {bd2 bd3 : List PyData} {j1 j2 : Nat} {r1 : List Row} (e0 : F__law_take bd [.int 3] = some (N j1, bd1)) (e1 : F__law_take bd1 [.int 3] = some (N j2, bd2)) (e2 : fn bd2 [f.enc, N j2, N dp] = some (E r1, bd3)) (hl : acc.length < 100000) :
    appS 4 (tupM (consM (conM (.str "loop")) (consM (callB 1 0 F__law_take (consM (conM (.int 3)) nilM)) (consM (callB 3 0 fn (consM (varM 1) (consM (callB 1 0 F__law_take (consM (conM (.int 3)) nilM)) (consM (opM subP (varM 3) (conM (.int 1))) nilM)))) nilM)))) (stp bd acc f mn (dp + 1) dv (L3 a b c) kd) =
      some (.nx (stp bd3 (acc ++ [(Row.loop j1 r1).enc]) f mn (dp + 1) dv (L3 a b c) kd)) := by
  rw [enc_loop]
  exact appS_eq rfl (tupM_eq (consM_eq conM_eq (consM_eq (callB_eq (one_eq conM_eq) rfl e0) (one_eq (rr_call e1 e2)))) (by simp)) rfl hl
end
end K06

namespace K06
open PySem L2 Evl Pd Qt
section
variable {bd bd1 acc : List PyData} {f : Fr} {mn dp kd : Nat} {dv nm : PyData} {a b c t : Nat}
theorem regs_le {f : Fr} (hf : f.Ok) : 1 ≤ f.regs ∧ f.regs ≤ 4 := hf.regs
theorem rr_chain {fn : FnB} (hf : f.Ok) (ht : f.tabs ≠ []) {m : Nat} (c0 : Nat) (hb : Box m bd) (hm : m + 3 + 2 * c0 < 100000) (ha : a < f.regs) (hbr : b < f.regs) (hc : c < f.regs) (hk : kd < 10) (hl : acc.length < 100000)
    (hrec : 7 ≤ kd → ∃ d, dp = d + 1 ∧ ∀ many, many ≤ 2 → ∀ m bd, Box m bd → m + c0 < 100000 → ∃ (rows : List Row) (bd' : List PyData), fn bd [f.enc, N many, N d] = some (E rows, bd') ∧ Box (m + c0) bd' ∧ rows.length = many ∧ ∀ x ∈ rows, okB f 3 d x) :
    ∃ (x : Row) (bd' : List PyData), (ifS (orB (boolM (opM ltP (varM 8) (conM (.int 3)))) (andB (boolM (opM ltP (varM 8) (conM (.int 5)))) (boolM (opM eqS (opM ixP (varM 1) (conM (.int 2))) (conM (.int 0)))))) (appS 4 (opM addP (tupM (consM (conM (.str "op")) (consM (callB 1 0 F__law_take (consM (caM lenP (consM (opM ixP (varM 1) (conM (.int 3))) nilM)) nilM)) nilM))) (caM tupleP (consM (varM 6) nilM)))) (ifS (boolM (opM ltP (varM 8) (conM (.int 5)))) (appS 4 (opM addP (tupM (consM (opM ixP (listM (lstM (consM (conM (.str "load")) (consM (conM (.str "store")) nilM)))) (opM subP (varM 8) (conM (.int 3)))) nilM)) (caM tupleP (consM (slM (varM 6) noM (partM (conM (.int 2)))) nilM)))) (ifS (boolM (opM ltP (varM 8) (conM (.int 7)))) (appS 4 (ifM (boolM (opM eqS (varM 8) (conM (.int 5)))) (tupM (consM (conM (.str "fence")) nilM)) (tupM (consM (conM (.str "op")) (consM (conM (.int 0)) (consM (opM ixP (varM 6) (conM (.int 0))) (consM (opM ixP (varM 6) (conM (.int 1))) (consM (opM ixP (varM 6) (conM (.int 1))) nilM)))))))) (ifS (boolM (opM ltP (varM 8) (conM (.int 9)))) (appS 4 (tupM (consM (conM (.str "fork")) (consM (opM ixP (varM 6) (conM (.int 0))) (consM (callB 3 0 fn (consM (varM 1) (consM (callB 1 0 F__law_take (consM (conM (.int 3)) nilM)) (consM (opM subP (varM 3) (conM (.int 1))) nilM)))) (consM (callB 3 0 fn (consM (varM 1) (consM (callB 1 0 F__law_take (consM (conM (.int 3)) nilM)) (consM (opM subP (varM 3) (conM (.int 1))) nilM)))) nilM)))))) (appS 4 (tupM (consM (conM (.str "loop")) (consM (callB 1 0 F__law_take (consM (conM (.int 3)) nilM)) (consM (callB 3 0 fn (consM (varM 1) (consM (callB 1 0 F__law_take (consM (conM (.int 3)) nilM)) (consM (opM subP (varM 3) (conM (.int 1))) nilM)))) nilM))))))))) (stp bd acc f mn dp dv (L3 a b c) kd) = some (.nx (stp bd' (acc ++ [x.enc]) f mn dp dv (L3 a b c) kd)) ∧ Box (m + 3 + 2 * c0) bd' ∧ okB f 3 dp x := by
  have htl : 0 < f.tabs.length := List.length_pos_iff.mpr ht
  have htm := hf.many
  have heq : boolM (opM eqS (opM ixP (varM 1) (conM (.int 2))) (conM (.int 0))) (stp bd acc f mn dp dv (L3 a b c) kd) = some (.ok (decide ((f.cells : Int) = 0)) (stp bd acc f mn dp dv (L3 a b c) kd)) :=
    boolM_eq (opM_eq (opM_eq (varM_eq rfl) conM_eq (ix2 : ixP f.enc (.int 2) = some (N f.cells))) conM_eq (eqS_int _ _))
  have lt : ∀ (c1 : Int) (bb : Bool), decide ((kd : Int) < c1) = bb → boolM (opM ltP (varM 8) (conM (.int c1))) (stp bd acc f mn dp dv (L3 a b c) kd) = some (.ok bb (stp bd acc f mn dp dv (L3 a b c) kd)) := fun c1 bb h => ltP_c rfl h
  by_cases h1 : kd < 3 ∨ (kd < 5 ∧ f.cells = 0)
  · obtain ⟨t, bd1, e1, hb1, htt⟩ := take_nat hb (by omega) htl (by omega)
    refine ⟨.op t a b c, bd1, ?_, hb1.mono (by omega), by rw [okB, okR]; exact ⟨htt, ha, hbr, hc⟩⟩
    rw [ifS_true (ρ' := stp bd acc f mn dp dv (L3 a b c) kd) ?_]
    · exact rr_op e1 hl
    · by_cases h3 : kd < 3
      · exact orB_t (lt 3 true (decide_eq_true (by omega)))
      · rw [orB_f (lt 3 false (decide_eq_false (by omega))), andB_t (lt 5 true (decide_eq_true (by omega))), heq, decide_eq_true (by omega)]
  · rw [ifS_false (ρ' := stp bd acc f mn dp dv (L3 a b c) kd) ?_]
    rotate_left
    · rw [orB_f (lt 3 false (decide_eq_false (by omega)))]
      by_cases h5 : kd < 5
      · rw [andB_t (lt 5 true (decide_eq_true (by omega))), heq, decide_eq_false (by omega)]
      · exact andB_f (lt 5 false (decide_eq_false (by omega)))
    by_cases h5 : kd < 5
    · have hcl : 0 < f.cells := by omega
      rw [ifS_true (lt 5 true (decide_eq_true (by omega)))]
      have hkk : kd = 3 ∨ kd = 4 := by omega
      rcases hkk with rfl | rfl
      · refine ⟨.load a b, bd, ?_, hb.mono (by omega), by rw [okB, okR]; exact ⟨hcl, ha, hbr⟩⟩
        rw [enc_load]
        exact rr_ls (w := "load") (e := .int 0) (opM_eq (varM_eq rfl) conM_eq rfl) (ix_natL (i := 0) rfl) hl
      · refine ⟨.store a b, bd, ?_, hb.mono (by omega), by rw [okB, okR]; exact ⟨hcl, ha, hbr⟩⟩
        rw [enc_store]
        exact rr_ls (w := "store") (e := .int 1) (opM_eq (varM_eq rfl) conM_eq rfl) (ix_natL (i := 1) rfl) hl
    · rw [ifS_false (lt 5 false (decide_eq_false (by omega)))]
      by_cases h7 : kd < 7
      · rw [ifS_true (lt 7 true (decide_eq_true (by omega)))]
        by_cases hk5 : kd = 5
        · exact ⟨.fence, bd, rr_5 hk5 hl, hb.mono (by omega), by cases dp <;> (rw [okB]; trivial)⟩
        · exact ⟨.op 0 a b b, bd, rr_6 (by omega) hl, hb.mono (by omega), by rw [okB, okR]; exact ⟨htl, ha, hbr, hbr⟩⟩
      · rw [ifS_false (lt 7 false (decide_eq_false (by omega)))]
        obtain ⟨d, rfl, hr⟩ := hrec (by omega)
        by_cases h9 : kd < 9
        · rw [ifS_true (lt 9 true (decide_eq_true (by omega)))]
          obtain ⟨j1, bd1, e1, hb1, hj1⟩ := take_nat hb (by omega) (many := 3) (by decide) (by decide)
          obtain ⟨r1, bd2, e2, hb2, hl1, ho1⟩ := hr j1 (by omega) _ _ hb1 (by omega)
          obtain ⟨j2, bd3, e3, hb3, hj2⟩ := take_nat hb2 (by omega) (many := 3) (by decide) (by decide)
          obtain ⟨r2, bd4, e4, hb4, hl2, ho2⟩ := hr j2 (by omega) _ _ hb3 (by omega)
          exact ⟨.fork a r1 r2, bd4, rr_fork e1 e2 e3 e4 hl, hb4.mono (by omega), by rw [okB]; exact ⟨ha, ⟨by omega, ho1⟩, ⟨by omega, ho2⟩⟩⟩
        · rw [ifS_false (lt 9 false (decide_eq_false (by omega)))]
          obtain ⟨j1, bd1, e1, hb1, hj1⟩ := take_nat hb (by omega) (many := 3) (by decide) (by decide)
          obtain ⟨j2, bd2, e2, hb2, hj2⟩ := take_nat hb1 (by omega) (many := 3) (by decide) (by decide)
          obtain ⟨r1, bd3, e3, hb3, hl1, ho1⟩ := hr j2 (by omega) _ _ hb2 (by omega)
          exact ⟨.loop j1 r1, bd3, rr_loop e1 e2 e3 hl, hb3.mono (by omega), by rw [okB]; exact ⟨by omega, ⟨by omega, ho1⟩⟩⟩
end
end K06

namespace K06
open PySem L2 Evl Pd Qt
/-- what a row of drawn rows is -/
def RowsQ (f : Fr) (many dp m : Nat) (r : PyData × List PyData) : Prop := ∃ (rows : List Row) (bd' : List PyData), r = (E rows, bd') ∧ Box m bd' ∧ rows.length = many ∧ ∀ x ∈ rows, okB f 3 dp x
theorem rows_turns {f : Fr} (hf : f.Ok) (ht : f.tabs ≠ []) {dp k : Nat} (c0 cap : Nat) (hc10 : cap ≤ 10)
    (hrec : dp = 0 ∨ ∃ d, dp = d + 1 ∧ ∀ many, many ≤ 2 → ∀ m bd, Box m bd → m + c0 < 100000 → ∃ (rows : List Row) (bd' : List PyData), F__law_rows k bd [f.enc, N many, N d] = some (E rows, bd') ∧ Box (m + c0) bd' ∧ rows.length = many ∧ ∀ x ∈ rows, okB f 3 d x)
    {many : Nat} (hmany : many ≤ cap) {m : Nat} {bd : List PyData} (hb : Box m bd) (hm : m + cap * (7 + 2 * c0) < 100000) :
    ∃ r, F__law_rows (k + 1) bd [f.enc, N many, N dp] = some r ∧ RowsQ f many dp (m + many * (7 + 2 * c0)) r := by
  have hcap : ∀ i, i < many → i * (7 + 2 * c0) + (7 + 2 * c0) ≤ cap * (7 + 2 * c0) := fun i hi => by
    have : (i + 1) * (7 + 2 * c0) ≤ cap * (7 + 2 * c0) := Nat.mul_le_mul_right _ (by omega)
    rw [Nat.add_mul, Nat.one_mul] at this
    exact this
  generalize hz : cap * (7 + 2 * c0) = z at *
  have hr4 := hf.regs
  show ∃ r, ((den__law_rows F__law_take (F__law_rows k)) [.own true bd, .fro f.enc, .fro (N many), .fro (N dp), .no, .no, .no, .no, .no]).bind outB = some r ∧ _
  unfold den__law_rows
  refine for_numE (ρ1 := [.own true bd, .fro f.enc, .fro (N many), .fro (N dp), .own false [], .no, .no, .no, .no]) (ρ2 := [.own true bd, .fro f.enc, .fro (N many), .fro (N dp), .own false [], .no, .no, .no, .no]) (ds := rangeD 0 many) many
    (fun i ρ => ∃ bdi rows s5 s6 s8, Box (m + i * (7 + 2 * c0)) bdi ∧ ρ = [.own true bdi, .fro f.enc, .fro (N many), .fro (N dp), .own false (encs rows), s5, s6, .no, s8] ∧ rows.length = i ∧ ∀ x ∈ rows, okB f 3 dp x)
    rfl (rng1M_eq (one_eq (varM_eq rfl)) (by omega)) (rangeD_length 0 _) ⟨bd, [], .no, .no, .no, by rw [Nat.zero_mul]; exact hb, rfl, rfl, fun x hx => by cases hx⟩ (fun i dv ρ hi hR => ?_) (fun ρ hR => ?_)
  · obtain ⟨bdi, rows, s5, s6, s8, hbi, rfl, hl, hok⟩ := hR
    have hci := hcap i hi
    generalize hw : i * (7 + 2 * c0) = w at *
    refine step_of (ρ1 := [.own true bdi, .fro f.enc, .fro (N many), .fro (N dp), .own false (encs rows), .fro dv, s6, .no, s8]) rfl ?_
    obtain ⟨l, bdj, e3, hbj, hll, hlv⟩ := takes_ok 7 rfl (tl := [.fro f.enc, .fro (N many), .fro (N dp), .own false (encs rows), .fro dv, s6, .no, s8]) (i := 6) (b := f.regs) (arg := opM ixP (varM 1) (conM (.int 1))) rfl (by omega) (by omega) (fun bd s => opM_eq (varM_eq rfl) conM_eq (ix1 : ixP f.enc (.int 1) = some (N f.regs))) 3 (m + w) bdi hbi (by omega)
    have e4 : (rng1M (consM (conM (.int 3)) nilM)) [.own true bdi, .fro f.enc, .fro (N many), .fro (N dp), .own false (encs rows), .fro dv, s6, .no, s8] = some (.ok (rangeD 0 3) [.own true bdi, .fro f.enc, .fro (N many), .fro (N dp), .own false (encs rows), .fro dv, s6, .no, s8]) := rng1M_eq (r := 3) (one_eq conM_eq) (by decide)
    obtain ⟨a, b, c, rfl⟩ : ∃ a b c, l = [a, b, c] := by
      match l, hll with
      | [a, b, c], _ => exact ⟨a, b, c, rfl⟩
    rw [seqS_nx (ρ' := [.own true bdj, .fro f.enc, .fro (N many), .fro (N dp), .own false (encs rows), .fro dv, .fro (L3 a b c), .no, s8]) (asgS_eq (i := 6) (listM_eq (lcM_eq e4 e3)))]
    have ha : a < f.regs := hlv a (by simp)
    have hb2 : b < f.regs := hlv b (by simp)
    have hc : c < f.regs := hlv c (by simp)
    obtain ⟨kk, hkk⟩ : ∃ kk : Nat, kk = (if 0 < dp then 10 else 7) := ⟨_, rfl⟩
    obtain ⟨kd, bdk, e5, hbk, hkd⟩ := take_nat hbj (by omega) (many := kk) (by rw [hkk]; split <;> decide) (by rw [hkk]; split <;> decide)
    have e6 : (ifM (boolM (opM gtP (varM 3) (conM (.int 0)))) (conM (.int 10)) (conM (.int 7))) [.own true bdj, .fro f.enc, .fro (N many), .fro (N dp), .own false (encs rows), .fro dv, .fro (L3 a b c), .no, s8] = some (.ok (N kk) [.own true bdj, .fro f.enc, .fro (N many), .fro (N dp), .own false (encs rows), .fro dv, .fro (L3 a b c), .no, s8]) := by
      by_cases hp : 0 < dp
      · rw [ifM_t (gtP_c (k := dp) rfl (decide_eq_true (by omega))), hkk, if_pos hp]; rfl
      · rw [ifM_f (gtP_c (k := dp) rfl (decide_eq_false (by omega))), hkk, if_neg hp]; rfl
    rw [seqS_nx (ρ' := stp bdk (encs rows) f many dp dv (L3 a b c) kd) (asgS_eq (i := 8) (callB_eq (n := 1) (one_eq e6) rfl e5))]
    have h10 : kk ≤ 10 := by rw [hkk]; split <;> decide
    obtain ⟨x, bdx, e7, hbx, hx⟩ := rr_chain (fn := F__law_rows k) (dp := dp) (mn := many) (dv := dv) (kd := kd) (a := a) (b := b) (c := c) hf ht c0 hbk (by omega) ha hb2 hc (by omega) (acc := encs rows) (by rw [encs_length]; omega) (fun h7 => by
      rcases hrec with h0 | hr
      · exfalso
        have : kk = 7 := by rw [hkk, if_neg (by omega)]
        omega
      · exact hr)
    refine ⟨_, e7, bdx, rows ++ [x], .fro dv, .fro (L3 a b c), .fro (N kd), hbx.mono (by rw [Nat.add_mul, hw]; omega), ?_, by rw [List.length_append, hl]; rfl, fun y hy => ?_⟩
    · rw [encs_append, encs, encs]
    · rcases List.mem_append.mp hy with hy | hy
      · exact hok y hy
      · rw [List.mem_singleton.mp hy]; exact hx
  · obtain ⟨bdi, rows, s5, s6, s8, hbi, rfl, hl, hok⟩ := hR
    exact ⟨(E rows, bdi), rfl, rows, bdi, rfl, hbi, hl, hok⟩
theorem rows_0 {f : Fr} (hf : f.Ok) (ht : f.tabs ≠ []) {k : Nat} (hk : 0 < k) {many : Nat} (hmany : many ≤ 3) {m : Nat} {bd : List PyData} (hb : Box m bd) (hm : m + 21 < 100000) :
    ∃ (rows : List Row) (bd' : List PyData), F__law_rows k bd [f.enc, N many, N 0] = some (E rows, bd') ∧ Box (m + 21) bd' ∧ rows.length = many ∧ ∀ x ∈ rows, okB f 3 0 x := by
  obtain ⟨k, rfl⟩ : ∃ j, k = j + 1 := ⟨k - 1, by omega⟩
  obtain ⟨r, e, rows, bd', rfl, h1, h2, h3⟩ := rows_turns hf ht (dp := 0) (k := k) 0 3 (by omega) (.inl rfl) hmany hb (by omega)
  exact ⟨rows, bd', e, h1.mono (by omega), h2, h3⟩
theorem rows_1 {f : Fr} (hf : f.Ok) (ht : f.tabs ≠ []) {k : Nat} (hk : 1 < k) {many : Nat} (hmany : many ≤ 3) {m : Nat} {bd : List PyData} (hb : Box m bd) (hm : m + 150 < 100000) :
    ∃ (rows : List Row) (bd' : List PyData), F__law_rows k bd [f.enc, N many, .int 1] = some (E rows, bd') ∧ Box (m + 150) bd' ∧ rows.length = many ∧ ∀ x ∈ rows, okB f 3 1 x := by
  obtain ⟨k, rfl⟩ : ∃ j, k = j + 1 := ⟨k - 1, by omega⟩
  obtain ⟨r, e, rows, bd', rfl, h1, h2, h3⟩ := rows_turns hf ht (dp := 1) (k := k) 21 3 (by omega) (.inr ⟨0, rfl, fun many hmn m bd hb hm => rows_0 hf ht (by omega) (by omega) hb hm⟩) hmany hb (by omega)
  exact ⟨rows, bd', e, h1.mono (by omega), h2, h3⟩
theorem rows_2 {f : Fr} (hf : f.Ok) (ht : f.tabs ≠ []) {k : Nat} (hk : 2 < k) {many : Nat} (hmany : many ≤ 5) {m : Nat} {bd : List PyData} (hb : Box m bd) (hm : m + 1600 < 100000) :
    ∃ (rows : List Row) (bd' : List PyData), F__law_rows k bd [f.enc, N many, .int 2] = some (E rows, bd') ∧ Box (m + 1600) bd' ∧ rows.length = many ∧ ∀ x ∈ rows, okB f 3 2 x := by
  obtain ⟨k, rfl⟩ : ∃ j, k = j + 1 := ⟨k - 1, by omega⟩
  obtain ⟨r, e, rows, bd', rfl, h1, h2, h3⟩ := rows_turns hf ht (dp := 2) (k := k) 150 5 (by omega) (.inr ⟨1, rfl, fun many hmn m bd hb hm => rows_1 hf ht (by omega) (by omega) hb hm⟩) hmany hb (by omega)
  refine ⟨rows, bd', e, h1.mono ?_, h2, h3⟩
  have : many * (7 + 2 * 150) ≤ 5 * (7 + 2 * 150) := Nat.mul_le_mul_right _ hmany
  omega
end K06

namespace Pd
open PySem L2 Evl
/-! ### what may be compared -/
def Lay (n : Nat) (d : PyData) : Prop := d.canLay0 = true ∧ d.depth ≤ n
theorem Lay.mono {n m : Nat} {d : PyData} (h : Lay n d) (hm : n ≤ m) : Lay m d := ⟨h.1, Nat.le_trans h.2 hm⟩
theorem Lay.all {n : Nat} : ∀ {ds : List PyData}, (∀ x ∈ ds, Lay n x) → PyData.canLayAll0 ds = true ∧ PyData.depthAll ds ≤ n
  | [], _ => ⟨rfl, Nat.zero_le _⟩
  | x :: ds, h => by
    have h1 := h x List.mem_cons_self
    have h2 := Lay.all fun y hy => h y (List.mem_cons_of_mem x hy)
    refine ⟨?_, ?_⟩
    · show (x.canLay0 && PyData.canLayAll0 ds) = true
      rw [h1.1, h2.1]; rfl
    · show max x.depth (PyData.depthAll ds) ≤ n
      exact Nat.max_le.mpr ⟨h1.2, h2.2⟩
theorem Lay.tup {n : Nat} {ds : List PyData} (h : ∀ x ∈ ds, Lay n x) : Lay (n + 1) (.tuple ds) := by
  have := Lay.all h
  exact ⟨this.1, by show PyData.depthAll ds + 1 ≤ n + 1; omega⟩
theorem Lay.lst {n : Nat} {ds : List PyData} (h : ∀ x ∈ ds, Lay n x) : Lay (n + 1) (.list ds) := by
  have := Lay.all h
  exact ⟨this.1, by show PyData.depthAll ds + 1 ≤ n + 1; omega⟩
theorem Lay.int {i : Int} : Lay 0 (.int i) := ⟨rfl, Nat.le_refl _⟩
theorem Lay.bool {i : Bool} : Lay 0 (.bool i) := ⟨rfl, Nat.le_refl _⟩
theorem Lay.str {s : Str} (h : PyData.strOk s = true) : Lay 0 (.str s) := ⟨h, Nat.le_refl _⟩
theorem Lay.shaped {n : Nat} {d : PyData} (h : Lay n d) (hn : n ≤ 64) : SeqAt.shaped d = true := by
  unfold SeqAt.shaped
  rw [h.1, Bool.true_and]
  exact decide_eq_true (Nat.le_trans h.2 hn)
theorem neS_self {n : Nat} {d : PyData} (h : Lay n d) (hn : n ≤ 64) : neS d d = some (.bool false) := by
  have hs := h.shaped hn
  have e : neP d d = some (.bool false) := by
    unfold neP
    rw [if_pos ⟨hs, hs⟩, SeqAt.eqv_refl d h.1]
    rfl
  unfold neS
  split
  · rename_i x y heq
    cases heq
    simp
  · exact e
/-- unlike tuples: the one empty -/
theorem lc_none {tg : DG} {tt : DB} {e : DE} {vs : List Nat} {ρ0 : Rho} : ∀ (ds acc : List PyData), (∀ d ∈ ds, ∃ ρ1 ρ2, tg d ρ0 = some ρ1 ∧ tt ρ1 = some (.ok false ρ2) ∧ wipeR ρ2 vs = ρ0) → lcL tg tt e vs ds acc ρ0 = some (acc, ρ0)
  | [], acc, _ => rfl
  | d :: ds, acc, h => by
    obtain ⟨ρ1, ρ2, h1, h2, h3⟩ := h d List.mem_cons_self
    rw [lcL, h1]
    show bnd0 (tt ρ1) _ = _
    rw [h2, bnd0_ok, if_neg (by decide), h3]
    exact lc_none ds acc fun d hd => h d (List.mem_cons_of_mem _ hd)
end Pd

namespace Pd
open PySem L2 Evl
section
variable {ρ ρ1 ρ2 ρ3 : Rho} {f g : DE} {fl : DL} {a b c d : PyData} {as ds : List PyData} {i n : Nat} {t t0 : Bool}
theorem callBi_eq {fn : FnB} {b0 bd1 bd2 : List PyData} (h0 : ρ[i]? = some (.own t0 b0)) (h1 : fl ρ = some (.ok as ρ1)) (h2 : ρ1[i]? = some (.own t bd1)) (hn : as.length = n) (h3 : fn bd1 as = some (d, bd2)) : callB n i fn fl ρ = some (.ok d (ρ1.set i (.own t bd2))) := by
  unfold callB
  rw [h0]
  show bnd (fl ρ) _ = _
  rw [h1, bnd_ok]
  show (match ρ1[i]? with | some (.own t bd) => _ | _ => none) = _
  rw [h2]
  show (if _ then _ else _) = _
  rw [if_pos hn, h3]
  rfl
theorem callN_eq {fn : FnN} (h1 : fl ρ = some (.ok as ρ1)) (hn : as.length = n) (h2 : fn as = some ds) : callN n fn fl ρ = some (.ok ds ρ1) := by
  unfold callN
  rw [h1, bnd_ok, if_pos hn, h2]
  rfl
theorem asgG_eq {tg : DG} (h1 : f ρ = some (.ok d ρ1)) (h2 : tg d ρ1 = some ρ2) : asgG tg f ρ = some (.nx ρ2) := by
  unfold asgG
  rw [h1]
  show (tg d ρ1).map _ = _
  rw [h2]
  rfl
theorem ifS_skip {e : DE} {g : DS} (h : e ρ = some (.ok (.bool false) ρ1)) : ifS (boolM e) g nextS ρ = some (.nx ρ1) := by
  rw [ifS_false (boolM_eq h)]
  rfl
theorem seqS_last {f : DS} {r : Option Oc} (h : f ρ = r) : f ρ = r := h
end
theorem rangeD_succ (lo : Int) (n : Nat) : rangeD lo (n + 1) = .int lo :: rangeD (lo + 1) n := by
  unfold rangeD
  rw [List.range_succ_eq_map, List.map_cons, List.map_map]
  congr 1
  · simp
  · refine List.map_congr_left fun i _ => ?_
    show PyData.int _ = PyData.int _
    congr 1
    simp
    omega
theorem rangeD_map (n : Nat) : rangeD 0 n = (List.range n).map fun i : Nat => PyData.int (i : Int) := by
  unfold rangeD
  refine List.map_congr_left fun i _ => ?_
  show PyData.int _ = PyData.int _
  congr 1
  simp
section
variable {tg : DG} {body : DS}
theorem loop_rng (tot : Nat) (R : Nat → Rho → Prop) (st : ∀ (i : Nat) (ρ : Rho), i < tot → R i ρ → ∃ ρ1 ρ2, tg (.int (i : Int)) ρ = some ρ1 ∧ body ρ1 = some (.nx ρ2) ∧ R (i + 1) ρ2) : ∀ (n i : Nat) (ρ : Rho), i + n = tot → R i ρ →
    ∃ ρ', loopS tg body (rangeD (i : Int) n) ρ = some (.nx ρ') ∧ R tot ρ'
  | 0, i, ρ, hi, h => ⟨ρ, rfl, by rw [Nat.add_zero] at hi; rw [← hi]; exact h⟩
  | n + 1, i, ρ, hi, h => by
    obtain ⟨ρ1, ρ2, h1, h2, h3⟩ := st i ρ (by omega) h
    obtain ⟨ρ', h4, h5⟩ := loop_rng tot R st n (i + 1) ρ2 (by omega) h3
    rw [rangeD_succ, loop_nx h1 h2]
    exact ⟨ρ', h4, h5⟩
theorem for_rngS {Rst : DS} {it : DL} {ρ1 ρ2 : Rho} {Q : Option Oc → Prop} (tot : Nat) (R : Nat → Rho → Prop)
    (h2 : it ρ1 = some (.ok (rangeD 0 tot) ρ2)) (h3 : R 0 ρ2)
    (st : ∀ (i : Nat) (ρ : Rho), i < tot → R i ρ → ∃ ρ1 ρ2, tg (.int (i : Int)) ρ = some ρ1 ∧ body ρ1 = some (.nx ρ2) ∧ R (i + 1) ρ2)
    (h5 : ∀ ρ, R tot ρ → Q (Rst ρ)) : Q ((seqS (forS it tg body) Rst) ρ1) := by
  obtain ⟨ρ', h6, h7⟩ := loop_rng (tg := tg) (body := body) tot R st tot 0 ρ2 (by omega) h3
  have e : forS it tg body ρ1 = some (.nx ρ') := by
    show bndS (it ρ1) _ = _
    rw [h2]
    exact h6
  rw [seqS_nx e]
  exact h5 ρ' h7
theorem for_mapS {α : Type} {Rst : DS} {it : DL} {ρ1 ρ2 : Rho} {Q : Option Oc → Prop} (enc : α → PyData) (xs : List α) (R : Rho → Prop)
    (h2 : it ρ1 = some (.ok (xs.map enc) ρ2)) (h3 : R ρ2)
    (st : ∀ (x : α) (ρ : Rho), x ∈ xs → R ρ → ∃ ρ1 ρ2, tg (enc x) ρ = some ρ1 ∧ body ρ1 = some (.nx ρ2) ∧ R ρ2)
    (h5 : ∀ ρ, R ρ → Q (Rst ρ)) : Q ((seqS (forS it tg body) Rst) ρ1) := by
  obtain ⟨ρ', h6, h7, _⟩ := loop_pre (tg := tg) (body := body) enc (fun _ post ρ => R ρ ∧ ∀ x ∈ post, x ∈ xs) [] xs ρ2 ⟨h3, fun _ h => h⟩ (fun pre x post ρ h => by
    obtain ⟨ρ1, ρ2, a, b, c⟩ := st x ρ (h.2 x List.mem_cons_self) h.1
    exact ⟨ρ1, ρ2, a, b, c, fun y hy => h.2 y (List.mem_cons_of_mem _ hy)⟩)
  have e : forS it tg body ρ1 = some (.nx ρ') := by
    show bndS (it ρ1) _ = _
    rw [h2]
    exact h6
  rw [seqS_nx e]
  exact h5 ρ' h7
end
theorem zipD_map {α : Type} (f g : α → PyData) : ∀ xs : List α, zipD (xs.map f) (xs.map g) = xs.map fun x => .tuple [f x, g x]
  | [] => rfl
  | x :: xs => by
    rw [List.map_cons, List.map_cons, List.map_cons, ← zipD_map f g xs]
    rfl
end Pd

/-! what is wanted of a step, backwards: one rule for each word -/
namespace Pd
open PySem L2 Evl
abbrev XC := Nat → PyData → Rho → Prop
def We {α : Type} (x : Option (Ou α)) (Q : α → Rho → Prop) (X : XC) : Prop := (∃ a ρ, x = some (.ok a ρ) ∧ Q a ρ) ∨ ∃ c d ρ, x = some (.ex c d ρ) ∧ X c d ρ
def Ws (x : Option Oc) (Q : Oc → Prop) : Prop := ∃ o, x = some o ∧ Q o
def Wk (K : Rho → Prop) (Q : Oc → Prop) : Oc → Prop
  | .nx ρ => K ρ
  | o => Q o
def Wv {α : Type} (x : Option α) (Q : α → Prop) : Prop := ∃ d, x = some d ∧ Q d
def Wr (x : Option Rs) (Q : PyData → Prop) (X : Nat → PyData → Prop) : Prop := (∃ d, x = some (.ok d) ∧ Q d) ∨ ∃ c d, x = some (.er c d) ∧ X c d
def Wif (b : Bool) (A B : Prop) : Prop := (b = true → A) ∧ (b = false → B)
def Wset (ρ : Rho) (i : Nat) (s : Sl) (K : Rho → Prop) : Prop := K (ρ.set i s)
def Wtg (tg : DG) (d : PyData) (ρ : Rho) (K : Rho → Prop) : Prop := ∃ ρ1, tg d ρ = some ρ1 ∧ K ρ1
def Wlen (n m : Nat) (K : Prop) : Prop := n = m ∧ K
/-- the body of a loop -/
def Wlo (K : Rho → Prop) (Q : Oc → Prop) : Oc → Prop
  | .nx ρ => K ρ
  | .ct ρ => K ρ
  | .bk ρ => Q (.nx ρ)
  | o => Q o
def Wown (ρ : Rho) (i : Nat) (K : Bool → List PyData → Prop) : Prop := ∃ t ds, ρ[i]? = some (.own t ds) ∧ K t ds
def Wp2 {β γ : Type} (r : β × γ) (K : β → γ → Prop) : Prop := K r.1 r.2
def Wcap (n : Nat) (K : Prop) : Prop := n ≤ 100000 ∧ K
def WlS (tg : DG) (body : DS) (ds : List PyData) (ρ : Rho) (Q : Oc → Prop) : Prop := Ws (loopS tg body ds ρ) Q
class SetAt (ρ : Rho) (i : Nat) (s : Sl) (out : outParam Rho) : Prop where
  h : ρ.set i s = out
instance SetAt.z {a s : Sl} {l : Rho} : SetAt (a :: l) 0 s (s :: l) := ⟨rfl⟩
instance SetAt.s {a s : Sl} {l l' : Rho} {n : Nat} [h : SetAt l n s l'] : SetAt (a :: l) (n + 1) s (a :: l') := ⟨congrArg (a :: ·) h.h⟩
class WipeAt (ρ : Rho) (vs : List Nat) (out : outParam Rho) : Prop where
  h : wipeR ρ vs = out
instance WipeAt.z {ρ : Rho} : WipeAt ρ [] ρ := ⟨rfl⟩
instance WipeAt.s {ρ ρ1 ρ2 : Rho} {i : Nat} {r : List Nat} [h : WipeAt ρ r ρ1] [g : SetAt ρ1 i .no ρ2] : WipeAt ρ (i :: r) ρ2 := ⟨by show (wipeR ρ r).set i .no = ρ2; rw [h.h, g.h]⟩
class LookAt (ρ : Rho) (i : Nat) (s : outParam Sl) : Prop where
  h : ρ[i]? = some s
instance LookAt.z {a : Sl} {l : Rho} : LookAt (a :: l) 0 a := ⟨rfl⟩
instance LookAt.s {a s : Sl} {l : Rho} {n : Nat} [h : LookAt l n s] : LookAt (a :: l) (n + 1) s := ⟨by rw [List.getElem?_cons_succ]; exact h.h⟩
class TgsAt (tgs : List PyData → Rho → Option Rho) (ds : List PyData) (ρ : Rho) (out : outParam Rho) : Prop where
  h : tgs ds ρ = some out
class TgAt (tg : DG) (d : PyData) (ρ : Rho) (out : outParam Rho) : Prop where
  h : tg d ρ = some out
instance TgAt.n {i : Nat} {d : PyData} {ρ ρ1 : Rho} [g : SetAt ρ i (.fro d) ρ1] : TgAt (nameG i) d ρ ρ1 := ⟨by show some _ = _; rw [g.h]⟩
instance TgsAt.z {ρ : Rho} : TgsAt nilG [] ρ ρ := ⟨rfl⟩
instance TgsAt.s {a : DG} {b : List PyData → Rho → Option Rho} {d : PyData} {ds : List PyData} {ρ ρ1 ρ2 : Rho} [g : TgAt a d ρ ρ1] [h : TgsAt b ds ρ1 ρ2] : TgsAt (consG a b) (d :: ds) ρ ρ2 := ⟨by show (a d ρ).bind _ = _; rw [g.h]; exact h.h⟩
instance TgAt.st {b : List PyData → Rho → Option Rho} {ds : List PyData} {ρ ρ1 : Rho} [h : TgsAt b ds ρ ρ1] : TgAt (seqG b) (.tuple ds) ρ ρ1 := ⟨h.h⟩
instance TgAt.sl {b : List PyData → Rho → Option Rho} {ds : List PyData} {ρ ρ1 : Rho} [h : TgsAt b ds ρ ρ1] : TgAt (seqG b) (.list ds) ρ ρ1 := ⟨h.h⟩
instance TgAt.tt {b : List PyData → Rho → Option Rho} {ds : List PyData} {ρ ρ1 : Rho} [h : TgsAt b ds ρ ρ1] : TgAt (tupG b) (.tuple ds) ρ ρ1 := ⟨h.h⟩
def Wwp (ρ : Rho) (vs : List Nat) (K : Rho → Prop) : Prop := K (wipeR ρ vs)
section
variable {α : Type} {ρ ρ1 ρ2 ρ3 : Rho} {f g h : DE} {fl gl : DL} {t u : DB} {a b c d : PyData} {as ds es : List PyData} {i j n m : Nat} {k : Bool} {Q : PyData → Rho → Prop} {QL : List PyData → Rho → Prop} {QB : Bool → Rho → Prop} {X : XC} {QS : Oc → Prop}
theorem we_ok {a : α} {P : α → Rho → Prop} (h : P a ρ) : We (some (.ok a ρ)) P X := .inl ⟨_, _, rfl, h⟩
theorem we_er {P : α → Rho → Prop} {c : Nat} (h : X c d ρ) : We (some (.ex c d ρ) : Option (Ou α)) P X := .inr ⟨_, _, _, rfl, h⟩
theorem ws_ok {o : Oc} {P : Oc → Prop} (h : P o) : Ws (some o) P := ⟨_, rfl, h⟩
theorem we_of {x : Option (Ou α)} {P : α → Rho → Prop} (h : We x P (fun _ _ _ => False)) : ∃ a ρ, x = some (.ok a ρ) ∧ P a ρ := by
  rcases h with h | ⟨_, _, _, _, h⟩
  · exact h
  · exact h.elim
theorem we_mono {x : Option (Ou α)} {P P' : α → Rho → Prop} {X X' : XC} (h : We x P X) (m : ∀ a ρ, P a ρ → P' a ρ) (mx : ∀ c d ρ, X c d ρ → X' c d ρ) : We x P' X' := by
  rcases h with ⟨a, ρ, e, h⟩ | ⟨c, d, ρ, e, h⟩
  · exact .inl ⟨a, ρ, e, m _ _ h⟩
  · exact .inr ⟨c, d, ρ, e, mx _ _ _ h⟩
theorem ws_mono {x : Option Oc} {P P' : Oc → Prop} (h : Ws x P) (m : ∀ o, P o → P' o) : Ws x P' := by
  obtain ⟨o, e, h⟩ := h
  exact ⟨o, e, m _ h⟩
theorem ws_of {x : Option Oc} {P : Oc → Prop} (h : Ws x P) : ∃ o, x = some o ∧ P o := h
theorem wv_of {x : Option α} {P : α → Prop} (h : Wv x P) : ∃ o, x = some o ∧ P o := h
theorem wv {x : Option α} {P : α → Prop} {y : α} (h : x = some y) (q : P y) : Wv x P := ⟨y, h, q⟩
theorem wr {x : Option Rs} {P : PyData → Prop} {Y : Nat → PyData → Prop} {y : PyData} (h : x = some (.ok y)) (q : P y) : Wr x P Y := .inl ⟨y, h, q⟩
theorem wr_er {x : Option Rs} {P : PyData → Prop} {Y : Nat → PyData → Prop} {c : Nat} {y : PyData} (h : x = some (.er c y)) (q : Y c y) : Wr x P Y := .inr ⟨c, y, h, q⟩
theorem we_eq {x : Option (Ou α)} {y : α} {P : α → Rho → Prop} (h : x = some (.ok y ρ)) (q : P y ρ) : We x P X := .inl ⟨y, ρ, h, q⟩
theorem ws_eq {x : Option Oc} {o : Oc} {P : Oc → Prop} (h : x = some o) (q : P o) : Ws x P := ⟨o, h, q⟩
theorem bnd_we {β : Type} {x : Option (Ou α)} {k : α → Rho → Option (Ou β)} {P : β → Rho → Prop} (h : We x (fun a ρ1 => We (k a ρ1) P X) X) : We (bnd x k) P X := by
  rcases h with ⟨a, ρ, rfl, h⟩ | ⟨c, d, ρ, rfl, h⟩
  · exact h
  · exact we_er h
theorem bndS_ws {x : Option (Ou α)} {k : α → Rho → Option Oc} (h : We x (fun a ρ1 => Ws (k a ρ1) QS) (fun c d ρ1 => QS (.ex c d ρ1))) : Ws (bndS x k) QS := by
  rcases h with ⟨a, ρ, rfl, h⟩ | ⟨c, d, ρ, rfl, h⟩
  · exact h
  · exact ws_ok h
theorem map_wv {β : Type} {x : Option β} {k : β → α} {ρ : Rho} {P : α → Rho → Prop} (h : Wv x fun d => P (k d) ρ) : We (x.map fun d => (.ok (k d) ρ : Ou α)) P X := by
  obtain ⟨d, rfl, h⟩ := h
  exact we_ok h
/-! ### tests -/
theorem wif_t {A B : Prop} (h : A) : Wif true A B := ⟨fun _ => h, fun e => by cases e⟩
theorem wif_f {A B : Prop} (h : B) : Wif false A B := ⟨fun e => Bool.noConfusion e, fun _ => h⟩
theorem wif_not {A B : Prop} (h : Wif k B A) : Wif (!k) A B := by
  cases k with
  | true => exact wif_f (h.1 rfl)
  | false => exact wif_t (h.2 rfl)
theorem wif_of {A B : Prop} (h1 : k = true → A) (h2 : k = false → B) : Wif k A B := ⟨h1, h2⟩
theorem wif_true {A B : Prop} (e : k = true) (h : A) : Wif k A B := by subst e; exact wif_t h
theorem wif_false {A B : Prop} (e : k = false) (h : B) : Wif k A B := by subst e; exact wif_f h
theorem wif_dec {A B p : Prop} [Decidable p] (h1 : p → A) (h2 : ¬ p → B) : Wif (decide p) A B := ⟨fun e => h1 (of_decide_eq_true e), fun e => h2 (of_decide_eq_false e)⟩
theorem wif_same {A : Prop} (h : A) : Wif k A A := ⟨fun _ => h, fun _ => h⟩
theorem wset [s : SetAt ρ i (sl : Sl) ρ1] {K : Rho → Prop} (h : K ρ1) : Wset ρ i sl K := by
  unfold Wset; rw [s.h]; exact h
theorem wwp {vs : List Nat} [s : WipeAt ρ vs ρ1] {K : Rho → Prop} (h : K ρ1) : Wwp ρ vs K := by
  unfold Wwp; rw [s.h]; exact h
theorem wp2i {β γ : Type} {x : β} {y : γ} {K : β → γ → Prop} (h : K x y) : Wp2 (x, y) K := h
theorem wown {K : Bool → List PyData → Prop} {tt : Bool} (h : ρ[i]? = some (.own tt ds)) (k : K tt ds) : Wown ρ i K := ⟨_, _, h, k⟩
theorem wcap {K : Prop} (h : n ≤ 100000) (k : K) : Wcap n K := ⟨h, k⟩
theorem wlen {K : Prop} (h : n = m) (k : K) : Wlen n m K := ⟨h, k⟩
/-! ### expressions -/
theorem we_var (h : ρ[i]? = some (.fro d)) (q : Q d ρ) : We (varM i ρ) Q X := by
  rw [varM_eq h]; exact we_ok q
theorem we_con (q : Q d ρ) : We (conM d ρ) Q X := we_ok q
theorem we_letF (h : ρ[i]? = some (.fro d)) (q : Q d ρ) : We (letM i ρ) Q X := by
  unfold letM; rw [h]; exact we_ok q
theorem we_letO {tt : Bool} (h : ρ[i]? = some (.own tt ds)) (q : Wset ρ i (.fro (.list ds)) fun ρ1 => Q (.list ds) ρ1) : We (letM i ρ) Q X := by
  unfold letM; rw [h]; exact we_ok q
theorem we_op {op : Op} (h : We (f ρ) (fun a ρ1 => We (g ρ1) (fun b ρ2 => Wv (op a b) fun d => Q d ρ2) X) X) : We (opM op f g ρ) Q X :=
  bnd_we (we_mono h (fun a ρ1 h1 => bnd_we (we_mono h1 (fun b ρ2 h2 => map_wv (k := id) h2) fun _ _ _ h => h)) fun _ _ _ h => h)
theorem we_un {op : PyData → Option PyData} (h : We (f ρ) (fun a ρ1 => Wv (op a) fun d => Q d ρ1) X) : We (unM op f ρ) Q X :=
  bnd_we (we_mono h (fun a ρ1 h1 => map_wv (k := id) h1) fun _ _ _ h => h)
theorem we_ca {op : List PyData → Option PyData} (h : We (fl ρ) (fun as ρ1 => Wv (op as) fun d => Q d ρ1) X) : We (caM op fl ρ) Q X :=
  bnd_we (we_mono h (fun a ρ1 h1 => map_wv (k := id) h1) fun _ _ _ h => h)
theorem we_nil (q : QL [] ρ) : We (nilM ρ) QL X := we_ok q
theorem we_cons (h : We (f ρ) (fun a ρ1 => We (fl ρ1) (fun as ρ2 => QL (a :: as) ρ2) X) X) : We (consM f fl ρ) QL X :=
  bnd_we (we_mono h (fun a ρ1 h1 => bnd_we (we_mono h1 (fun b ρ2 h2 => we_ok h2) fun _ _ _ h => h)) fun _ _ _ h => h)
theorem we_list (h : We (fl ρ) (fun as ρ1 => Q (.list as) ρ1) X) : We (listM fl ρ) Q X := bnd_we (we_mono h (fun _ _ h => we_ok h) fun _ _ _ h => h)
theorem we_tup (h : We (fl ρ) (fun as ρ1 => Wcap as.length (Q (.tuple as) ρ1)) X) : We (tupM fl ρ) Q X :=
  bnd_we (we_mono h (fun as ρ1 h1 => by show We (if _ then _ else _) Q X; rw [if_pos h1.1]; exact we_ok h1.2) fun _ _ _ h => h)
theorem we_lst (h : We (fl ρ) (fun as ρ1 => Wcap as.length (QL as ρ1)) X) : We (lstM fl ρ) QL X :=
  bnd_we (we_mono h (fun as ρ1 h1 => by show We (if _ then _ else _) QL X; rw [if_pos h1.1]; exact we_ok h1.2) fun _ _ _ h => h)
def Wbool (d : PyData) (K : Bool → Prop) : Prop := ∃ b, d = .bool b ∧ K b
theorem wbool {K : Bool → Prop} (h : K k) : Wbool (.bool k) K := ⟨k, rfl, h⟩
theorem we_bool (h : We (f ρ) (fun d ρ1 => Wbool d fun b => QB b ρ1) X) : We (boolM f ρ) QB X :=
  bnd_we (we_mono h (fun d ρ1 h1 => by obtain ⟨b, rfl, h1⟩ := h1; exact we_ok h1) fun _ _ _ h => h)
theorem wif_ite {A B : Prop} (h : Wif k A B) : if k = true then A else B := by
  cases k with
  | true => exact h.1 rfl
  | false => exact h.2 rfl
theorem we_andB (h : We (t ρ) (fun b ρ1 => Wif b (We (u ρ1) QB X) (QB false ρ1)) X) : We (andB t u ρ) QB X :=
  bnd_we (we_mono h (fun b ρ1 h1 => by cases b with
    | true => exact h1.1 rfl
    | false => exact we_ok (h1.2 rfl)) fun _ _ _ h => h)
theorem we_orB (h : We (t ρ) (fun b ρ1 => Wif b (QB true ρ1) (We (u ρ1) QB X)) X) : We (orB t u ρ) QB X :=
  bnd_we (we_mono h (fun b ρ1 h1 => by cases b with
    | true => exact we_ok (h1.1 rfl)
    | false => exact h1.2 rfl) fun _ _ _ h => h)
theorem we_notB (h : We (t ρ) (fun b ρ1 => QB (!b) ρ1) X) : We (notB t ρ) QB X := bnd_we (we_mono h (fun _ _ h => we_ok h) fun _ _ _ h => h)
theorem we_yesB (q : QB true ρ) : We (yesB ρ) QB X := we_ok q
theorem we_andV (h : We (f ρ) (fun d ρ1 => Wbool d fun b => Wif b (We (g ρ1) Q X) (Q (.bool false) ρ1)) X) : We (andV f g ρ) Q X :=
  bnd_we (we_mono h (fun d ρ1 h1 => by
    obtain ⟨b, rfl, h1⟩ := h1
    cases b with
    | true => exact h1.1 rfl
    | false => exact we_ok (h1.2 rfl)) fun _ _ _ h => h)
theorem we_orV (h : We (f ρ) (fun d ρ1 => Wbool d fun b => Wif b (Q (.bool true) ρ1) (We (g ρ1) Q X)) X) : We (orV f g ρ) Q X :=
  bnd_we (we_mono h (fun d ρ1 h1 => by
    obtain ⟨b, rfl, h1⟩ := h1
    cases b with
    | true => exact we_ok (h1.1 rfl)
    | false => exact h1.2 rfl) fun _ _ _ h => h)
theorem we_notV (h : We (f ρ) (fun d ρ1 => Wbool d fun b => Q (.bool (!b)) ρ1) X) : We (notV f ρ) Q X :=
  bnd_we (we_mono h (fun d ρ1 h1 => by obtain ⟨b, rfl, h1⟩ := h1; exact we_ok h1) fun _ _ _ h => h)
theorem we_if (h : We (t ρ) (fun b ρ1 => Wif b (We (f ρ1) Q X) (We (g ρ1) Q X)) X) : We (ifM t f g ρ) Q X :=
  bnd_we (we_mono h (fun b ρ1 h1 => by cases b with
    | true => exact h1.1 rfl
    | false => exact h1.2 rfl) fun _ _ _ h => h)
theorem we_tru (h : We (f ρ) (fun d ρ1 => Wv (truD d) fun b => QB b ρ1) X) : We (truB f ρ) QB X :=
  bnd_we (we_mono h (fun d ρ1 h1 => map_wv (k := id) h1) fun _ _ _ h => h)
def Wisi (d : PyData) (s : String) (K : Bool → Prop) : Prop := noDict d = true ∧ Wv (kitB (tyD d) s) K
theorem we_isi1 {s : String} (h : We (f ρ) (fun d ρ1 => Wisi d s fun b => Q (.bool b) ρ1) X) : We (isi1M s f ρ) Q X :=
  bnd_we (we_mono h (fun d ρ1 h1 => by rw [if_pos h1.1]; exact map_wv h1.2) fun _ _ _ h => h)
theorem we_isi2 {s s' : String} (h : We (f ρ) (fun d ρ1 => Wisi d s fun b => Wisi d s' fun b' => Q (.bool (b || b')) ρ1) X) : We (isi2M s s' f ρ) Q X :=
  bnd_we (we_mono h (fun d ρ1 h1 => by
    obtain ⟨b, e1, h2⟩ := wv_of h1.2
    obtain ⟨b', e2, h3⟩ := wv_of h2.2
    rw [h1.1, e1, e2]
    exact we_ok h3) fun _ _ _ h => h)
theorem we_chain {op op' : Op} (hh : We (f ρ) (fun a ρ1 => We (g ρ1) (fun b ρ2 => Wv (op a b) fun d => Wbool d fun k => Wif k (We (h ρ2) (fun c ρ3 => Wv (op' b c) fun d => Wbool d fun k => Q (.bool k) ρ3) X) (Q (.bool false) ρ2)) X) X) : We (chainM op op' f g h ρ) Q X := by
  refine bnd_we (we_mono hh (fun a ρ1 h1 => bnd_we (we_mono h1 (fun b ρ2 h2 => ?_) fun _ _ _ h => h)) fun _ _ _ h => h)
  obtain ⟨d, e1, k, rfl, h3⟩ := wv_of h2
  rw [e1]
  cases k with
  | true =>
    refine bnd_we (we_mono (h3.1 rfl) (fun c ρ3 h4 => ?_) fun _ _ _ h => h)
    obtain ⟨d', e2, k', rfl, h5⟩ := wv_of h4
    rw [e2]
    exact we_ok h5
  | false => exact we_ok (h3.2 rfl)
theorem we_no {P : Option Int → Rho → Prop} (q : P none ρ) : We (noM ρ) P X := we_ok q
def Wint (d : PyData) (K : Int → Prop) : Prop := ∃ i, d = .int i ∧ K i
theorem wint {K : Int → Prop} {z : Int} (h : K z) : Wint (.int z) K := ⟨z, rfl, h⟩
theorem we_part {P : Option Int → Rho → Prop} (h : We (f ρ) (fun d ρ1 => Wint d fun z => P (some z) ρ1) X) : We (partM f ρ) P X :=
  bnd_we (we_mono h (fun d ρ1 h1 => by obtain ⟨b, rfl, h1⟩ := h1; exact we_ok h1) fun _ _ _ h => h)
theorem we_sl {lo hi : DO} (h : We (f ρ) (fun d ρ1 => We (lo ρ1) (fun l ρ2 => We (hi ρ2) (fun r ρ3 => Wv (slP d l r) fun e => Q e ρ3) X) X) X) : We (slM f lo hi ρ) Q X :=
  bnd_we (we_mono h (fun d ρ1 h1 => bnd_we (we_mono h1 (fun l ρ2 h2 => bnd_we (we_mono h2 (fun r ρ3 h3 => map_wv (k := id) h3) fun _ _ _ h => h)) fun _ _ _ h => h)) fun _ _ _ h => h)
theorem we_lenO {tt : Bool} (h : ρ[i]? = some (.own tt ds)) (q : Q (.int ds.length) ρ) : We (lenOM i ρ) Q X := by
  unfold lenOM; rw [h]; exact we_ok q
theorem we_lenF (h : ρ[i]? = some (.fro (.list ds))) (q : Q (.int ds.length) ρ) : We (lenOM i ρ) Q X := by
  unfold lenOM; rw [h]; exact we_ok q
theorem we_tupO {tt : Bool} (h : ρ[i]? = some (.own tt ds)) (q : Q (.tuple ds) ρ) : We (tupOM i ρ) Q X := by
  unfold tupOM; rw [h]; exact we_ok q
theorem we_tupF (h : ρ[i]? = some (.fro (.list ds))) (q : Q (.tuple ds) ρ) : We (tupOM i ρ) Q X := by
  unfold tupOM; rw [h]; exact we_ok q
theorem we_ixO {tt : Bool} {e0 : List PyData} (h : ρ[i]? = some (.own tt e0)) (q : We (f ρ) (fun k ρ1 => Wown ρ1 i fun _ ds => Wv (ixP (.list ds) k) fun d => Q d ρ1) X) : We (ixOM i f ρ) Q X := by
  unfold ixOM; rw [h]
  refine bnd_we (we_mono q (fun k ρ1 h1 => ?_) fun _ _ _ h => h)
  obtain ⟨t', ds, e, h2⟩ := h1
  rw [e]
  cases k <;> first | exact map_wv (k := id) h2 | exact h2
theorem we_ixF (h : ρ[i]? = some (.fro (.list ds))) (q : We (f ρ) (fun k ρ1 => Wv (ixP (.list ds) k) fun d => Q d ρ1) X) : We (ixOM i f ρ) Q X := by
  unfold ixOM; rw [h]
  exact bnd_we (we_mono q (fun k ρ1 h1 => map_wv (k := id) h1) fun _ _ _ h => h)
/-! ### the words -/
section
variable {K : Bool → Prop} {x y : PyData} {ds es : List PyData} {i j : Int} {P : PyData → Prop}
theorem wisi_none_tuple (h : K false) : Wisi .none "tuple" K := ⟨rfl, wv (y := false) (by show kitB "NoneType" "tuple" = _; decide +kernel) h⟩
theorem wisi_none_list (h : K false) : Wisi .none "list" K := ⟨rfl, wv (y := false) (by show kitB "NoneType" "list" = _; decide +kernel) h⟩
theorem wisi_none_int (h : K false) : Wisi .none "int" K := ⟨rfl, wv (y := false) (by show kitB "NoneType" "int" = _; decide +kernel) h⟩
theorem wisi_none_bool (h : K false) : Wisi .none "bool" K := ⟨rfl, wv (y := false) (by show kitB "NoneType" "bool" = _; decide +kernel) h⟩
theorem wisi_none_str (h : K false) : Wisi .none "str" K := ⟨rfl, wv (y := false) (by show kitB "NoneType" "str" = _; decide +kernel) h⟩
theorem wisi_bool_tuple {z : Bool} (h : K false) : Wisi (.bool z) "tuple" K := ⟨rfl, wv (y := false) (by show kitB "bool" "tuple" = _; decide +kernel) h⟩
theorem wisi_bool_list {z : Bool} (h : K false) : Wisi (.bool z) "list" K := ⟨rfl, wv (y := false) (by show kitB "bool" "list" = _; decide +kernel) h⟩
theorem wisi_bool_int {z : Bool} (h : K true) : Wisi (.bool z) "int" K := ⟨rfl, wv (y := true) (by show kitB "bool" "int" = _; decide +kernel) h⟩
theorem wisi_bool_bool {z : Bool} (h : K true) : Wisi (.bool z) "bool" K := ⟨rfl, wv (y := true) (by show kitB "bool" "bool" = _; decide +kernel) h⟩
theorem wisi_bool_str {z : Bool} (h : K false) : Wisi (.bool z) "str" K := ⟨rfl, wv (y := false) (by show kitB "bool" "str" = _; decide +kernel) h⟩
theorem wisi_int_tuple {z : Int} (h : K false) : Wisi (.int z) "tuple" K := ⟨rfl, wv (y := false) (by show kitB "int" "tuple" = _; decide +kernel) h⟩
theorem wisi_int_list {z : Int} (h : K false) : Wisi (.int z) "list" K := ⟨rfl, wv (y := false) (by show kitB "int" "list" = _; decide +kernel) h⟩
theorem wisi_int_int {z : Int} (h : K true) : Wisi (.int z) "int" K := ⟨rfl, wv (y := true) (by show kitB "int" "int" = _; decide +kernel) h⟩
theorem wisi_int_bool {z : Int} (h : K false) : Wisi (.int z) "bool" K := ⟨rfl, wv (y := false) (by show kitB "int" "bool" = _; decide +kernel) h⟩
theorem wisi_int_str {z : Int} (h : K false) : Wisi (.int z) "str" K := ⟨rfl, wv (y := false) (by show kitB "int" "str" = _; decide +kernel) h⟩
theorem wisi_str_tuple {z : Str} (h : K false) : Wisi (.str z) "tuple" K := ⟨rfl, wv (y := false) (by show kitB "str" "tuple" = _; decide +kernel) h⟩
theorem wisi_str_list {z : Str} (h : K false) : Wisi (.str z) "list" K := ⟨rfl, wv (y := false) (by show kitB "str" "list" = _; decide +kernel) h⟩
theorem wisi_str_int {z : Str} (h : K false) : Wisi (.str z) "int" K := ⟨rfl, wv (y := false) (by show kitB "str" "int" = _; decide +kernel) h⟩
theorem wisi_str_bool {z : Str} (h : K false) : Wisi (.str z) "bool" K := ⟨rfl, wv (y := false) (by show kitB "str" "bool" = _; decide +kernel) h⟩
theorem wisi_str_str {z : Str} (h : K true) : Wisi (.str z) "str" K := ⟨rfl, wv (y := true) (by show kitB "str" "str" = _; decide +kernel) h⟩
theorem wisi_list_tuple (h : K false) : Wisi (.list ds) "tuple" K := ⟨rfl, wv (y := false) (by show kitB "list" "tuple" = _; decide +kernel) h⟩
theorem wisi_list_list (h : K true) : Wisi (.list ds) "list" K := ⟨rfl, wv (y := true) (by show kitB "list" "list" = _; decide +kernel) h⟩
theorem wisi_list_int (h : K false) : Wisi (.list ds) "int" K := ⟨rfl, wv (y := false) (by show kitB "list" "int" = _; decide +kernel) h⟩
theorem wisi_list_bool (h : K false) : Wisi (.list ds) "bool" K := ⟨rfl, wv (y := false) (by show kitB "list" "bool" = _; decide +kernel) h⟩
theorem wisi_list_str (h : K false) : Wisi (.list ds) "str" K := ⟨rfl, wv (y := false) (by show kitB "list" "str" = _; decide +kernel) h⟩
theorem wisi_tuple_tuple (h : K true) : Wisi (.tuple ds) "tuple" K := ⟨rfl, wv (y := true) (by show kitB "tuple" "tuple" = _; decide +kernel) h⟩
theorem wisi_tuple_list (h : K false) : Wisi (.tuple ds) "list" K := ⟨rfl, wv (y := false) (by show kitB "tuple" "list" = _; decide +kernel) h⟩
theorem wisi_tuple_int (h : K false) : Wisi (.tuple ds) "int" K := ⟨rfl, wv (y := false) (by show kitB "tuple" "int" = _; decide +kernel) h⟩
theorem wisi_tuple_bool (h : K false) : Wisi (.tuple ds) "bool" K := ⟨rfl, wv (y := false) (by show kitB "tuple" "bool" = _; decide +kernel) h⟩
theorem wisi_tuple_str (h : K false) : Wisi (.tuple ds) "str" K := ⟨rfl, wv (y := false) (by show kitB "tuple" "str" = _; decide +kernel) h⟩
theorem wv_add_ii (h : P (.int (i + j))) : Wv (addP (.int i) (.int j)) P := wv (rfl) h
theorem wv_add_tt (hl : ds.length + es.length ≤ 100000) (h : P (.tuple (ds ++ es))) : Wv (addP (.tuple ds) (.tuple es)) P := wv (add_tup hl) h
theorem wv_add_ll (hl : ds.length + es.length ≤ 100000) (h : P (.list (ds ++ es))) : Wv (addP (.list ds) (.list es)) P := wv (add_lst hl) h
theorem wv_sub (h : P (.int (i - j))) : Wv (subP (.int i) (.int j)) P := wv (rfl) h
theorem wv_lt (h : P (.bool (decide (i < j)))) : Wv (ltP (.int i) (.int j)) P := wv (rfl) h
theorem wv_le (h : P (.bool (decide (i ≤ j)))) : Wv (leP (.int i) (.int j)) P := wv (rfl) h
theorem wv_gt (h : P (.bool (decide (j < i)))) : Wv (gtP (.int i) (.int j)) P := wv (rfl) h
theorem wv_ge (h : P (.bool (decide (j ≤ i)))) : Wv (geP (.int i) (.int j)) P := wv (rfl) h
theorem wv_eq_ss {s t : Str} (h : P (.bool (decide (s = t)))) : Wv (eqS (.str s) (.str t)) P := wv (rfl) h
theorem wv_ne_ss {s t : Str} (h : P (.bool (!decide (s = t)))) : Wv (neS (.str s) (.str t)) P := wv (rfl) h
theorem eqS_ii (a b : Int) : eqS (.int a) (.int b) = some (.bool (decide (a = b))) := by
  have e : (a == b) = decide (a = b) := by
    by_cases h : a = b
    · rw [decide_eq_true h]; exact beq_iff_eq.mpr h
    · rw [decide_eq_false h]; exact beq_eq_false_iff_ne.mpr h
  simp [eqS, eqP, SeqAt.shaped, PyData.canLay0, PyData.depth, PyData.eqv, e]
theorem neS_ii (a b : Int) : neS (.int a) (.int b) = some (.bool (!decide (a = b))) := by
  have e : (a == b) = decide (a = b) := by
    by_cases h : a = b
    · rw [decide_eq_true h]; exact beq_iff_eq.mpr h
    · rw [decide_eq_false h]; exact beq_eq_false_iff_ne.mpr h
  simp [neS, neP, SeqAt.shaped, PyData.canLay0, PyData.depth, PyData.eqv, e]
theorem wv_eq_ii (h : P (.bool (decide (i = j)))) : Wv (eqS (.int i) (.int j)) P := wv (eqS_ii i j) h
theorem wv_ne_ii (h : P (.bool (!decide (i = j)))) : Wv (neS (.int i) (.int j)) P := wv (neS_ii i j) h
def isStrB : PyData → Bool | .str _ => true | _ => false
theorem eqS_sh (hx : SeqAt.shaped x = true) (hy : SeqAt.shaped y = true) (n : isStrB x = false ∨ isStrB y = false) : eqS x y = some (.bool (x.eqv y)) := by
  unfold eqS
  split
  · rcases n with n | n <;> cases n
  · unfold eqP; rw [if_pos ⟨hx, hy⟩]
theorem neS_sh (hx : SeqAt.shaped x = true) (hy : SeqAt.shaped y = true) (n : isStrB x = false ∨ isStrB y = false) : neS x y = some (.bool (!x.eqv y)) := by
  unfold neS
  split
  · rcases n with n | n <;> cases n
  · unfold neP; rw [if_pos ⟨hx, hy⟩]
theorem wv_is (h : P (.bool (isNoneP x))) : Wv (isP x .none) P := wv (rfl) h
theorem wv_isNot (h : P (.bool (!isNoneP x))) : Wv (isNotP x .none) P := wv (rfl) h
theorem wv_ix_t {n : Nat} (hx : ds[n]? = some x) (h : P (x)) : Wv (ixP (.tuple ds) (.int (n : Int))) P := wv (ix_nat hx) h
theorem wv_ix_l {n : Nat} (hx : ds[n]? = some x) (h : P (x)) : Wv (ixP (.list ds) (.int (n : Int))) P := wv (ix_natL hx) h
theorem wv_ix_t0 {a0 : PyData} (h : P a0) : Wv (ixP (.tuple (a0 :: ds)) (.int 0)) P := wv (ix_nat (i := 0) rfl) h
theorem wv_ix_t1 {a0 a1 : PyData} (h : P a1) : Wv (ixP (.tuple (a0 :: a1 :: ds)) (.int 1)) P := wv (ix_nat (i := 1) rfl) h
theorem wv_ix_t2 {a0 a1 a2 : PyData} (h : P a2) : Wv (ixP (.tuple (a0 :: a1 :: a2 :: ds)) (.int 2)) P := wv (ix_nat (i := 2) rfl) h
theorem wv_ix_t3 {a0 a1 a2 a3 : PyData} (h : P a3) : Wv (ixP (.tuple (a0 :: a1 :: a2 :: a3 :: ds)) (.int 3)) P := wv (ix_nat (i := 3) rfl) h
theorem wv_ix_t4 {a0 a1 a2 a3 a4 : PyData} (h : P a4) : Wv (ixP (.tuple (a0 :: a1 :: a2 :: a3 :: a4 :: ds)) (.int 4)) P := wv (ix_nat (i := 4) rfl) h
theorem wv_ix_t5 {a0 a1 a2 a3 a4 a5 : PyData} (h : P a5) : Wv (ixP (.tuple (a0 :: a1 :: a2 :: a3 :: a4 :: a5 :: ds)) (.int 5)) P := wv (ix_nat (i := 5) rfl) h
theorem wv_ix_l0 {a0 : PyData} (h : P a0) : Wv (ixP (.list (a0 :: ds)) (.int 0)) P := wv (ix_natL (i := 0) rfl) h
theorem wv_ix_l1 {a0 a1 : PyData} (h : P a1) : Wv (ixP (.list (a0 :: a1 :: ds)) (.int 1)) P := wv (ix_natL (i := 1) rfl) h
theorem wv_ix_l2 {a0 a1 a2 : PyData} (h : P a2) : Wv (ixP (.list (a0 :: a1 :: a2 :: ds)) (.int 2)) P := wv (ix_natL (i := 2) rfl) h
theorem wv_ix_l3 {a0 a1 a2 a3 : PyData} (h : P a3) : Wv (ixP (.list (a0 :: a1 :: a2 :: a3 :: ds)) (.int 3)) P := wv (ix_natL (i := 3) rfl) h
theorem wv_ix_l4 {a0 a1 a2 a3 a4 : PyData} (h : P a4) : Wv (ixP (.list (a0 :: a1 :: a2 :: a3 :: a4 :: ds)) (.int 4)) P := wv (ix_natL (i := 4) rfl) h
theorem wv_ix_l5 {a0 a1 a2 a3 a4 a5 : PyData} (h : P a5) : Wv (ixP (.list (a0 :: a1 :: a2 :: a3 :: a4 :: a5 :: ds)) (.int 5)) P := wv (ix_natL (i := 5) rfl) h
theorem wv_len_t (h : P (.int (ds.length : Nat))) : Wv (lenP [.tuple ds]) P := wv (rfl) h
theorem wv_len_l (h : P (.int (ds.length : Nat))) : Wv (lenP [.list ds]) P := wv (rfl) h
theorem wv_tuple_l (h : P (.tuple ds)) : Wv (tupleP [.list ds]) P := wv (rfl) h
theorem wv_tuple_t (h : P (.tuple ds)) : Wv (tupleP [.tuple ds]) P := wv (rfl) h
theorem wv_list_l (h : P (.list ds)) : Wv (listP [.list ds]) P := wv (rfl) h
theorem wv_list_t (h : P (.list ds)) : Wv (listP [.tuple ds]) P := wv (rfl) h
theorem wv_int_i (h : P (.int i)) : Wv (intP [.int i]) P := wv (rfl) h
theorem wv_int_b {b : Bool} (h : P (.int (if b = true then 1 else 0))) : Wv (intP [.bool b]) P := wv (rfl) h
theorem wv_abs (h : P (.int (if i < 0 then -i else i))) : Wv (absP [.int i]) P := wv (rfl) h
theorem wv_neg (h : P (.int (-i))) : Wv (negP (.int i)) P := wv (rfl) h
theorem wvb_tru {b : Bool} {P : Bool → Prop} (h : P b) : Wv (truD (.bool b)) P := wv rfl h
theorem wvb_truL {P : Bool → Prop} (h : P (!ds.isEmpty)) : Wv (truD (.list ds)) P := wv rfl h
theorem wvb_truT {P : Bool → Prop} (h : P (!ds.isEmpty)) : Wv (truD (.tuple ds)) P := wv rfl h
theorem wv_sl_t {lo hi : Option Int} (h : P (.tuple (cutD ds lo hi))) : Wv (slP (.tuple ds) lo hi) P := wv (rfl) h
theorem wv_sl_l {lo hi : Option Int} (h : P (.list (cutD ds lo hi))) : Wv (slP (.list ds) lo hi) P := wv (rfl) h
theorem wv_mod (hj : 0 < j) (h : P (.int (i % j))) : Wv (modP (.int i) (.int j)) P := wv (by show (if _ then _ else _) = _; rw [if_pos (decide_eq_true hj)]) h
end
theorem wv_rev_t {ds : List PyData} {P : PyData → Prop} (h : P (.tuple ds.reverse)) : Wv (revP (.tuple ds)) P := ⟨_, rfl, h⟩
theorem wv_rev_l {ds : List PyData} {P : PyData → Prop} (h : P (.list ds.reverse)) : Wv (revP (.list ds)) P := ⟨_, rfl, h⟩
/-! ### calls -/
theorem we_call {fn : FnQ} (h : We (fl ρ) (fun as ρ1 => Wlen as.length n (Wv (fn as) fun d => Q d ρ1)) X) : We (callM n fn fl ρ) Q X :=
  bnd_we (we_mono h (fun d ρ1 h1 => by rw [if_pos h1.1]; exact map_wv (k := id) h1.2) fun _ _ _ h => h)
theorem map_wr {x : Option Rs} (h : Wr x (fun d => Q d ρ) fun c d => X c d ρ) : We (x.map fun r => match r with | .ok d => (.ok d ρ : Ou PyData) | .er c d => .ex c d ρ) Q X := by
  rcases h with ⟨d, rfl, h⟩ | ⟨c, d, rfl, h⟩
  · exact we_ok h
  · exact we_er h
theorem we_callE {fn : FnE} (h : We (fl ρ) (fun as ρ1 => Wlen as.length n (Wr (fn as) (fun d => Q d ρ1) fun c d => X c d ρ1)) X) : We (callE n fn fl ρ) Q X :=
  bnd_we (we_mono h (fun d ρ1 h1 => by rw [if_pos h1.1]; exact map_wr h1.2) fun _ _ _ h => h)
theorem we_callN {fn : FnN} (h : We (fl ρ) (fun as ρ1 => Wlen as.length n (Wv (fn as) fun d => QL d ρ1)) X) : We (callN n fn fl ρ) QL X :=
  bnd_we (we_mono h (fun d ρ1 h1 => by rw [if_pos h1.1]; exact map_wv (k := id) h1.2) fun _ _ _ h => h)
theorem we_kw {is : List Nat} {fn : FnQ} (h : We (fl ρ) (fun as ρ1 => Wlen as.length m (Wlen (sel is as).length n (Wv (fn (sel is as)) fun d => Q d ρ1))) X) : We (kwM m is n fn fl ρ) Q X :=
  bnd_we (we_mono h (fun d ρ1 h1 => by rw [if_pos ⟨h1.1, h1.2.1⟩]; exact map_wv (k := id) h1.2.2) fun _ _ _ h => h)
theorem we_kwE {is : List Nat} {fn : FnE} (h : We (fl ρ) (fun as ρ1 => Wlen as.length m (Wlen (sel is as).length n (Wr (fn (sel is as)) (fun d => Q d ρ1) fun c d => X c d ρ1))) X) : We (kwE m is n fn fl ρ) Q X :=
  bnd_we (we_mono h (fun d ρ1 h1 => by rw [if_pos ⟨h1.1, h1.2.1⟩]; exact map_wr h1.2.2) fun _ _ _ h => h)
theorem we_callB {fn : FnB} {tt : Bool} {e0 : List PyData} (h0 : ρ[i]? = some (.own tt e0)) (h : We (fl ρ) (fun as ρ1 => Wown ρ1 i fun t' bd => Wlen as.length n (Wv (fn bd as) fun r => Wp2 r fun d b2 => Wset ρ1 i (.own t' b2) fun ρ2 => Q d ρ2)) X) : We (callB n i fn fl ρ) Q X := by
  unfold callB; rw [h0]
  refine bnd_we (we_mono h (fun as ρ1 h1 => ?_) fun _ _ _ h => h)
  obtain ⟨t', bd, e, hl, h2⟩ := h1
  rw [e]
  show We (if _ then _ else _) Q X
  rw [if_pos hl]
  obtain ⟨r, e2, h3⟩ := wv_of h2
  rw [e2]
  exact we_ok h3
/-! ### iterators -/
def Wrng (as : List PyData) (K : Nat → Prop) : Prop := ∃ r : Nat, as = [.int (r : Int)] ∧ (r < 1000000) ∧ K r
theorem wrng {K : Nat → Prop} {r : Nat} (h : r < 1000000) (k : K r) : Wrng [.int (r : Int)] K := ⟨r, rfl, h, k⟩
theorem wrngL {K : Nat → Prop} {r : Nat} {z : Int} (e : z = (r : Int)) (h : r < 1000000) (k : K r) : Wrng [.int z] K := ⟨r, by rw [e], h, k⟩
def Wrng2 (as : List PyData) (K : Int → Int → Prop) : Prop := ∃ r s : Int, as = [.int r, .int s] ∧ (-1000000 < r ∧ r < 1000000 ∧ -1000000 < s ∧ s < 1000000) ∧ K r s
theorem wrng2 {K : Int → Int → Prop} {r s : Int} (h : -1000000 < r ∧ r < 1000000 ∧ -1000000 < s ∧ s < 1000000) (k : K r s) : Wrng2 [.int r, .int s] K := ⟨r, s, rfl, h, k⟩
theorem rng1_eq {r : Nat} (h : fl ρ = some (.ok [.int (r : Int)] ρ1)) (hr : r < 1000000) : rng1M fl ρ = some (.ok (rangeD 0 r) ρ1) := by
  unfold rng1M
  rw [h, bnd_ok]
  have hp : (-1000000 : Int) < (r : Int) ∧ (r : Int) < 1000000 := ⟨by omega, by omega⟩
  dsimp only
  rw [if_pos hp, Int.toNat_natCast]
theorem we_rng1 (h : We (fl ρ) (fun as ρ1 => Wrng as fun r => QL (rangeD 0 r) ρ1) X) : We (rng1M fl ρ) QL X := by
  rcases h with ⟨as, ρ1, e, h⟩ | ⟨c, d, ρ1, e, h⟩
  · obtain ⟨r, rfl, hr, h2⟩ := h
    rw [rng1_eq e hr]
    exact we_ok h2
  · unfold rng1M
    rw [e]
    exact we_er h
theorem rng1I_eq {r : Nat} (h : fl ρ = some (.ok [.int (r : Int)] ρ1)) (hr : r < 1000000) : rng1I fl ρ = some (.ok (rangeD 0 r) ρ1) := by
  unfold rng1I
  rw [h, bnd_ok]
  have hp : (r : Int) < 1000000 := by omega
  dsimp only
  rw [if_pos hp, Int.toNat_natCast]
theorem we_rng1I (h : We (fl ρ) (fun as ρ1 => Wrng as fun r => QL (rangeD 0 r) ρ1) X) : We (rng1I fl ρ) QL X := by
  rcases h with ⟨as, ρ1, e, h⟩ | ⟨c, d, ρ1, e, h⟩
  · obtain ⟨r, rfl, hr, h2⟩ := h
    rw [rng1I_eq e hr]
    exact we_ok h2
  · unfold rng1I
    rw [e]
    exact we_er h
theorem rng2I_eq {r s : Int} (h : fl ρ = some (.ok [.int r, .int s] ρ1)) (hr : -1000000 < r ∧ r < 1000000 ∧ -1000000 < s ∧ s < 1000000) : rng2I fl ρ = some (.ok (rangeD r (s - r).toNat) ρ1) := by
  unfold rng2I
  rw [h, bnd_ok]
  dsimp only
  rw [if_pos hr]
theorem we_rng2I (h : We (fl ρ) (fun as ρ1 => Wrng2 as fun r s => QL (rangeD r (s - r).toNat) ρ1) X) : We (rng2I fl ρ) QL X := by
  rcases h with ⟨as, ρ1, e, h⟩ | ⟨c, d, ρ1, e, h⟩
  · obtain ⟨r, s, rfl, hr, h2⟩ := h
    rw [rng2I_eq e hr]
    exact we_ok h2
  · unfold rng2I
    rw [e]
    exact we_er h
def Wseq (d : PyData) (K : List PyData → Prop) : Prop := ∃ ds, (d = .list ds ∨ d = .tuple ds) ∧ K ds
theorem wseq_l {K : List PyData → Prop} (h : K ds) : Wseq (.list ds) K := ⟨ds, .inl rfl, h⟩
theorem wseq_t {K : List PyData → Prop} (h : K ds) : Wseq (.tuple ds) K := ⟨ds, .inr rfl, h⟩
def Wlst (d : PyData) (K : List PyData → Prop) : Prop := ∃ ds, d = .list ds ∧ K ds
theorem wlst {K : List PyData → Prop} (h : K ds) : Wlst (.list ds) K := ⟨ds, rfl, h⟩
def Wtup (d : PyData) (K : List PyData → Prop) : Prop := ∃ ds, d = .tuple ds ∧ K ds
theorem wtup {K : List PyData → Prop} (h : K ds) : Wtup (.tuple ds) K := ⟨ds, rfl, h⟩
theorem we_listI (h : We (f ρ) (fun d ρ1 => Wlst d fun ds => QL ds ρ1) X) : We (listI f ρ) QL X :=
  bnd_we (we_mono h (fun d ρ1 h1 => by obtain ⟨b, rfl, h1⟩ := h1; exact we_ok h1) fun _ _ _ h => h)
theorem we_tupI (h : We (f ρ) (fun d ρ1 => Wtup d fun ds => QL ds ρ1) X) : We (tupI f ρ) QL X :=
  bnd_we (we_mono h (fun d ρ1 h1 => by obtain ⟨b, rfl, h1⟩ := h1; exact we_ok h1) fun _ _ _ h => h)
theorem we_seqI (h : We (f ρ) (fun d ρ1 => Wseq d fun ds => QL ds ρ1) X) : We (seqI f ρ) QL X :=
  bnd_we (we_mono h (fun d ρ1 h1 => by obtain ⟨b, (rfl | rfl), h1⟩ := h1 <;> exact we_ok h1) fun _ _ _ h => h)
def Wone (as : List PyData) (K : PyData → Prop) : Prop := ∃ d, as = [d] ∧ K d
theorem wone {K : PyData → Prop} (h : K d) : Wone [d] K := ⟨d, rfl, h⟩
theorem we_enumI (h : We (fl ρ) (fun as ρ1 => Wone as fun d => Wlst d fun ds => QL (enumD 0 ds) ρ1) X) : We (enumI fl ρ) QL X :=
  bnd_we (we_mono h (fun as ρ1 h1 => by obtain ⟨_, rfl, b, rfl, h1⟩ := h1; exact we_ok h1) fun _ _ _ h => h)
theorem we_enumTI (h : We (fl ρ) (fun as ρ1 => Wone as fun d => Wtup d fun ds => QL (enumD 0 ds) ρ1) X) : We (enumTI fl ρ) QL X :=
  bnd_we (we_mono h (fun as ρ1 h1 => by obtain ⟨_, rfl, b, rfl, h1⟩ := h1; exact we_ok h1) fun _ _ _ h => h)
theorem we_enumSI (h : We (fl ρ) (fun as ρ1 => Wone as fun d => Wseq d fun ds => QL (enumD 0 ds) ρ1) X) : We (enumSI fl ρ) QL X :=
  bnd_we (we_mono h (fun as ρ1 h1 => by obtain ⟨_, rfl, b, (rfl | rfl), h1⟩ := h1 <;> exact we_ok h1) fun _ _ _ h => h)
theorem we_enumOI {tt : Bool} (h : ρ[i]? = some (.own tt ds)) (q : Wset ρ i (.fro (.list ds)) fun ρ1 => QL (enumD 0 ds) ρ1) : We (enumOI i ρ) QL X := by
  unfold enumOI; rw [h]; exact we_ok q
theorem we_opN {op : Op} (h : We (f ρ) (fun a ρ1 => We (g ρ1) (fun b ρ2 => Wv (op a b) fun d => Wlst d fun ds => QL ds ρ2) X) X) : We (opN op f g ρ) QL X :=
  bnd_we (we_mono h (fun a ρ1 h1 => bnd_we (we_mono h1 (fun b ρ2 h2 => by
    obtain ⟨d, e, ds, rfl, h3⟩ := wv_of h2
    rw [e]
    exact we_ok h3) fun _ _ _ h => h)) fun _ _ _ h => h)
theorem we_caN {op : List PyData → Option PyData} (h : We (fl ρ) (fun as ρ1 => Wv (op as) fun d => Wlst d fun ds => QL ds ρ1) X) : We (caN op fl ρ) QL X :=
  bnd_we (we_mono h (fun as ρ1 h1 => by
    obtain ⟨d, e, ds, rfl, h3⟩ := wv_of h1
    rw [e]
    exact we_ok h3) fun _ _ _ h => h)
theorem we_bl {op : List PyData → List PyData → Option PyData} (h : We (f ρ) (fun a ρ1 => Wlst a fun ds => We (fl ρ1) (fun as ρ2 => Wv (op ds as) fun d => Q d ρ2) X) X) : We (blM op f fl ρ) Q X :=
  bnd_we (we_mono h (fun a ρ1 h1 => by
    obtain ⟨ds, rfl, h2⟩ := h1
    exact bnd_we (we_mono h2 (fun as ρ2 h3 => map_wv (k := id) h3) fun _ _ _ h => h)) fun _ _ _ h => h)
theorem we_told {hs : DH} {wr : PyData → PyData} (h : We (f ρ) (fun d ρ1 => Q (wr d) ρ1) fun c d ρ1 => Wv (hs c d) fun r => Q r ρ1) : We (toldG hs wr f ρ) Q X := by
  unfold toldG
  rcases h with ⟨d, ρ1, e, h⟩ | ⟨c, d, ρ1, e, h⟩
  · rw [e]; exact we_ok h
  · rw [e]; exact map_wv (k := id) h
def Wlam (d : PyData) (K : Nat → Prop) : Prop := ∃ j, d = lamD j ∧ K j
theorem wlam {K : Nat → Prop} (h : K n) : Wlam (lamD n) K := ⟨n, rfl, h⟩
theorem we_heard {hs : DH} {wr : PyData → PyData} {fs : Nat → DE} (h : We (f ρ) (fun d ρ1 => Wlam d fun j => We (toldG hs wr (fs j) ρ1) Q X) X) : We (heardG hs wr fs f ρ) Q X :=
  bnd_we (we_mono h (fun a ρ1 h1 => by obtain ⟨j, rfl, h2⟩ := h1; exact h2) fun _ _ _ h => h)
theorem we_revN (h : We (f ρ) (fun a ρ1 => Wv (revP a) fun d => Wlst d fun ds => QL ds ρ1) X) : We (revN f ρ) QL X :=
  bnd_we (we_mono h (fun as ρ1 h1 => by
    obtain ⟨d, e, ds, rfl, h3⟩ := wv_of h1
    rw [e]
    exact we_ok h3) fun _ _ _ h => h)
/-! ### statements -/
theorem ws_seq {F G : DS} (h : Ws (F ρ) (Wk (fun ρ1 => Ws (G ρ1) QS) QS)) : Ws (seqS F G ρ) QS := by
  unfold seqS
  obtain ⟨o, e, h⟩ := h
  rw [e]
  cases o with
  | nx ρ1 => exact h
  | _ => exact ws_ok h
theorem ws_cut {F G : DS} (I : Rho → Prop) (h1 : Ws (F ρ) (Wk I QS)) (h2 : ∀ ρ1, I ρ1 → Ws (G ρ1) QS) : Ws (seqS F G ρ) QS :=
  ws_seq (ws_mono h1 fun o => by cases o with
    | nx ρ1 => exact h2 ρ1
    | _ => exact id)
theorem we_cut {α : Type} {x : Option (Ou α)} {P : α → Rho → Prop} (y : α) (ρ0 : Rho) (h : We x (fun a ρ => a = y ∧ ρ = ρ0) (fun _ _ _ => False)) (q : P y ρ0) : We x P X :=
  we_mono h (fun a ρ e => by obtain ⟨rfl, rfl⟩ := e; exact q) fun _ _ _ h => h.elim
theorem we_cutP {α : Type} {x : Option (Ou α)} {P : α → Rho → Prop} (I : α → Rho → Prop) (h : We x I (fun _ _ _ => False)) (q : ∀ a ρ, I a ρ → P a ρ) : We x P X :=
  we_mono h q fun _ _ _ h => h.elim
theorem ws_skip {F G : DS} (h : We (t ρ) (fun b ρ1 => b = false ∧ ρ1 = ρ) (fun _ _ _ => False)) (k : Ws (G ρ) QS) : Ws (seqS (ifS t F nextS) G ρ) QS := by
  obtain ⟨b, ρ1, e, rfl, rfl⟩ := we_of h
  have e1 : ifS t F nextS ρ1 = some (.nx ρ1) := by rw [ifS_false e]; rfl
  rw [seqS_nx e1]
  exact k
theorem ws_skip1 {F : DS} (h : We (t ρ) (fun b ρ1 => b = false ∧ ρ1 = ρ) (fun _ _ _ => False)) (k : QS (.nx ρ)) : Ws (ifS t F nextS ρ) QS := by
  obtain ⟨b, ρ1, e, rfl, rfl⟩ := we_of h
  have e1 : ifS t F nextS ρ1 = some (.nx ρ1) := by rw [ifS_false e]; rfl
  rw [e1]
  exact ws_ok k
theorem wk_nx {K : Rho → Prop} (h : K ρ) : Wk K QS (.nx ρ) := h
theorem wk_rt {K : Rho → Prop} (h : QS (.rt d ρ)) : Wk K QS (.rt d ρ) := h
theorem wk_ro {K : Rho → Prop} (h : QS (.ro ds ρ)) : Wk K QS (.ro ds ρ) := h
theorem wk_bk {K : Rho → Prop} (h : QS (.bk ρ)) : Wk K QS (.bk ρ) := h
theorem wk_ct {K : Rho → Prop} (h : QS (.ct ρ)) : Wk K QS (.ct ρ) := h
theorem wk_ex {K : Rho → Prop} (h : QS (.ex i d ρ)) : Wk K QS (.ex i d ρ) := h
theorem wl_nx {K : Rho → Prop} (h : K ρ) : Wlo K QS (.nx ρ) := h
theorem wl_ct {K : Rho → Prop} (h : K ρ) : Wlo K QS (.ct ρ) := h
theorem wl_bk {K : Rho → Prop} (h : QS (.nx ρ)) : Wlo K QS (.bk ρ) := h
theorem wl_rt {K : Rho → Prop} (h : QS (.rt d ρ)) : Wlo K QS (.rt d ρ) := h
theorem wl_ro {K : Rho → Prop} (h : QS (.ro ds ρ)) : Wlo K QS (.ro ds ρ) := h
theorem wl_ex {K : Rho → Prop} (h : QS (.ex i d ρ)) : Wlo K QS (.ex i d ρ) := h
theorem ws_next (h : QS (.nx ρ)) : Ws (nextS ρ) QS := ws_ok h
theorem ws_break (h : QS (.bk ρ)) : Ws (breakS ρ) QS := ws_ok h
theorem ws_cont (h : QS (.ct ρ)) : Ws (contS ρ) QS := ws_ok h
theorem ws_asg (h : We (f ρ) (fun d ρ1 => Wset ρ1 i (.fro d) fun ρ2 => QS (.nx ρ2)) fun c d ρ1 => QS (.ex c d ρ1)) : Ws (asgS i f ρ) QS := bndS_ws (we_mono h (fun _ _ h => ws_ok h) fun _ _ _ h => h)
theorem ws_asgO (h : We (fl ρ) (fun ds ρ1 => Wset ρ1 i (.own false ds) fun ρ2 => QS (.nx ρ2)) fun c d ρ1 => QS (.ex c d ρ1)) : Ws (asgO i fl ρ) QS := bndS_ws (we_mono h (fun _ _ h => ws_ok h) fun _ _ _ h => h)
theorem ws_asgG {tg : DG} (h : We (f ρ) (fun d ρ1 => Wtg tg d ρ1 fun ρ2 => QS (.nx ρ2)) fun c d ρ1 => QS (.ex c d ρ1)) : Ws (asgG tg f ρ) QS :=
  bndS_ws (we_mono h (fun d ρ1 h1 => by obtain ⟨ρ2, e, h2⟩ := h1; rw [e]; exact ws_ok h2) fun _ _ _ h => h)
theorem ws_drop (h : We (f ρ) (fun _ ρ1 => QS (.nx ρ1)) fun c d ρ1 => QS (.ex c d ρ1)) : Ws (dropS f ρ) QS := bndS_ws (we_mono h (fun _ _ h => ws_ok h) fun _ _ _ h => h)
theorem ws_ret (h : We (f ρ) (fun d ρ1 => QS (.rt d ρ1)) fun c d ρ1 => QS (.ex c d ρ1)) : Ws (retS f ρ) QS := bndS_ws (we_mono h (fun _ _ h => ws_ok h) fun _ _ _ h => h)
theorem ws_retO (h : We (fl ρ) (fun d ρ1 => QS (.ro d ρ1)) fun c d ρ1 => QS (.ex c d ρ1)) : Ws (retO fl ρ) QS := bndS_ws (we_mono h (fun _ _ h => ws_ok h) fun _ _ _ h => h)
theorem ws_retN (h : QS (.rt .none ρ)) : Ws (retN ρ) QS := ws_ok h
theorem ws_raise {c : Nat} (h : We (f ρ) (fun d ρ1 => QS (.ex c d ρ1)) fun c d ρ1 => QS (.ex c d ρ1)) : Ws (raiseS c f ρ) QS := bndS_ws (we_mono h (fun _ _ h => ws_ok h) fun _ _ _ h => h)
theorem ws_if {F G : DS} (h : We (t ρ) (fun b ρ1 => Wif b (Ws (F ρ1) QS) (Ws (G ρ1) QS)) fun c d ρ1 => QS (.ex c d ρ1)) : Ws (ifS t F G ρ) QS :=
  bndS_ws (we_mono h (fun b ρ1 h1 => by cases b with
    | true => exact h1.1 rfl
    | false => exact h1.2 rfl) fun _ _ _ h => h)
theorem ws_app {tt : Bool} {e0 : List PyData} (h0 : ρ[i]? = some (.own tt e0)) (h : We (f ρ) (fun d ρ1 => Wown ρ1 i fun t' ds => ds.length < 100000 ∧ Wset ρ1 i (.own t' (ds ++ [d])) fun ρ2 => QS (.nx ρ2)) fun c d ρ1 => QS (.ex c d ρ1)) : Ws (appS i f ρ) QS := by
  unfold appS; rw [h0]
  refine bndS_ws (we_mono h (fun d ρ1 h1 => ?_) fun _ _ _ h => h)
  obtain ⟨t', ds, e, hl, h2⟩ := h1
  rw [e]
  show Ws (if _ then _ else _) QS
  rw [if_pos hl]
  exact ws_ok h2
theorem ws_ext {tt : Bool} {e0 : List PyData} (h0 : ρ[i]? = some (.own tt e0)) (h : We (f ρ) (fun d ρ1 => Wseq d fun es => Wown ρ1 i fun t' ds => ds.length + es.length ≤ 100000 ∧ Wset ρ1 i (.own t' (ds ++ es)) fun ρ2 => QS (.nx ρ2)) fun c d ρ1 => QS (.ex c d ρ1)) : Ws (extS i f ρ) QS := by
  unfold extS; rw [h0]
  refine bndS_ws (we_mono h (fun d ρ1 h1 => ?_) fun _ _ _ h => h)
  obtain ⟨es, hd, t', ds, e, hl, h2⟩ := h1
  have hs : seqD d = some es := by rcases hd with rfl | rfl <;> rfl
  rw [e]
  show Ws (match seqD d with | some es => _ | _ => _) QS
  rw [hs]
  show Ws (if _ then _ else _) QS
  rw [if_pos hl]
  exact ws_ok h2
theorem ws_par (h : We (fl ρ) (fun as ρ1 => ∃ a b, as = [a, b] ∧ Wset ρ1 i (.fro a) fun ρ2 => Wset ρ2 j (.fro b) fun ρ3 => QS (.nx ρ3)) fun c d ρ1 => QS (.ex c d ρ1)) : Ws (parS i j fl ρ) QS :=
  bndS_ws (we_mono h (fun as ρ1 h1 => by obtain ⟨a, b, rfl, h2⟩ := h1; exact ws_ok h2) fun _ _ _ h => h)
theorem ws_set {fi fe : DE} (h : We (fe ρ) (fun d ρ1 => Wown ρ1 i fun _ _ => We (fi ρ1) (fun k ρ2 => Wint k fun z => Wown ρ2 i fun t' ds => ∃ j, at? ds.length z = some j ∧ Wset ρ2 i (.own t' (ds.set j d)) fun ρ3 => QS (.nx ρ3)) fun c d ρ1 => QS (.ex c d ρ1)) fun c d ρ1 => QS (.ex c d ρ1)) : Ws (setS i fi fe ρ) QS := by
  refine bndS_ws (we_mono h (fun d ρ1 h1 => ?_) fun _ _ _ h => h)
  obtain ⟨t0, e0, e, h2⟩ := h1
  rw [e]
  refine bndS_ws (we_mono h2 (fun k ρ2 h3 => ?_) fun _ _ _ h => h)
  obtain ⟨z, rfl, t', ds, e1, jj, e2, h4⟩ := h3
  rw [e1]
  show Ws ((at? _ _).map _) QS
  rw [e2]
  exact ws_ok h4
theorem ws_for {tg : DG} {body : DS} (h : We (fl ρ) (fun ds ρ1 => WlS tg body ds ρ1 QS) fun c d ρ1 => QS (.ex c d ρ1)) : Ws (forS fl tg body ρ) QS := bndS_ws h
theorem wls_nil {tg : DG} {body : DS} (h : QS (.nx ρ)) : WlS tg body [] ρ QS := ws_ok h
theorem wls_cons {tg : DG} {body : DS} (h : Wtg tg d ρ fun ρ1 => Ws (body ρ1) (Wlo (fun ρ2 => WlS tg body ds ρ2 QS) QS)) : WlS tg body (d :: ds) ρ QS := by
  obtain ⟨ρ1, e, h1⟩ := h
  have e1 : loopS tg body (d :: ds) ρ = match body ρ1 with
      | some (.nx ρ2) => loopS tg body ds ρ2
      | some (.ct ρ2) => loopS tg body ds ρ2
      | some (.bk ρ2) => some (.nx ρ2)
      | x => x := by
    show (match tg d ρ with | none => none | some ρ1 => _) = _
    rw [e]
    first | done | rfl
  unfold WlS
  rw [e1]
  obtain ⟨o, eb, h1⟩ := h1
  rw [eb]
  cases o with
  | nx ρ2 => exact h1
  | ct ρ2 => exact h1
  | _ => exact ws_ok h1
theorem wtg {tg : DG} {K : Rho → Prop} (h : tg d ρ = some ρ1) (k : K ρ1) : Wtg tg d ρ K := ⟨ρ1, h, k⟩
/-- a loop by what holds: of what is done and what is left -/
theorem wls_inv {β : Type} {tg : DG} {body : DS} (enc : β → PyData) (I : List β → List β → Rho → Prop)
    (st : ∀ (pre : List β) (x : β) (post : List β) (ρ : Rho), I pre (x :: post) ρ → Wtg tg (enc x) ρ fun ρ1 => Ws (body ρ1) (Wlo (fun ρ2 => I (pre ++ [x]) post ρ2) QS))
    (fin : ∀ (pre : List β) (ρ : Rho), I pre [] ρ → QS (.nx ρ)) : ∀ (xs pre : List β) (ρ : Rho), I pre xs ρ → WlS tg body (xs.map enc) ρ QS
  | [], pre, ρ, h => ws_ok (fin pre ρ h)
  | x :: xs, pre, ρ, h => by
    refine wls_cons ?_
    obtain ⟨ρ1, e, h1⟩ := st pre x xs ρ h
    refine ⟨ρ1, e, ws_mono h1 fun o => ?_⟩
    cases o with
    | nx ρ2 => exact wls_inv enc I st fin xs (pre ++ [x]) ρ2
    | ct ρ2 => exact wls_inv enc I st fin xs (pre ++ [x]) ρ2
    | _ => exact id
/-- the same, of what is left alone -/
theorem wls_ind {β : Type} {tg : DG} {body : DS} (enc : β → PyData) (I : List β → Rho → Prop)
    (st : ∀ (x : β) (xs : List β) (ρ : Rho), I (x :: xs) ρ → Wtg tg (enc x) ρ fun ρ1 => Ws (body ρ1) (Wlo (fun ρ2 => I xs ρ2) QS))
    (fin : ∀ ρ : Rho, I [] ρ → QS (.nx ρ)) (xs : List β) (ρ : Rho) (h : I xs ρ) : WlS tg body (xs.map enc) ρ QS :=
  wls_inv enc (fun _ post ρ => I post ρ) (fun _ x post ρ h => st x post ρ h) (fun _ ρ h => fin ρ h) xs [] ρ h
/-! ### comprehensions -/
def Wl (x : Option (List PyData × Rho)) (K : List PyData → Rho → Prop) : Prop := ∃ a ρ, x = some (a, ρ) ∧ K a ρ
theorem we_lc {tg : DG} {tt : DB} {e : DE} {vs : List Nat} (h : We (fl ρ) (fun ds ρ1 => Wwp ρ1 vs fun ρ2 => Wl (lcL tg tt e vs ds [] ρ2) fun out ρ3 => Wwp ρ3 vs fun ρ4 => QL out ρ4) X) : We (lcM fl tg tt e vs ρ) QL X :=
  bnd_we (we_mono h (fun ds ρ1 h1 => by
    unfold Wwp at h1
    dsimp only at h1
    obtain ⟨a, ρ3, e, h2⟩ := h1
    rw [e]
    exact we_ok h2) fun _ _ _ h => h)
theorem wl_eq {x : Option (List PyData × Rho)} {K : List PyData → Rho → Prop} {out : List PyData} (h : x = some (out, ρ)) (k : K out ρ) : Wl x K := ⟨_, _, h, k⟩
/-- a comprehension that leaves the slots as they are: what is kept, what is made of it -/
theorem lc_gen {β : Type} {tg : DG} {tt : DB} {e : DE} {vs : List Nat} (enc : β → PyData) (p : β → Bool) (g : β → PyData) (ρ0 : Rho) : ∀ (xs : List β) (acc : List PyData), acc.length + xs.length ≤ 100000 →
    (∀ x ∈ xs, Wtg tg (enc x) ρ0 fun ρ1 => We (tt ρ1) (fun b ρ2 => b = p x ∧ Wif (p x) (We (e ρ2) (fun y ρ3 => y = g x ∧ wipeR ρ3 vs = ρ0) (fun _ _ _ => False)) (wipeR ρ2 vs = ρ0)) (fun _ _ _ => False)) →
    lcL tg tt e vs (xs.map enc) acc ρ0 = some (acc ++ (xs.filter p).map g, ρ0)
  | [], acc, _, _ => by rw [List.filter_nil, List.map_nil, List.map_nil, List.append_nil]; rfl
  | x :: xs, acc, hl, st => by
    obtain ⟨ρ1, h1, h2⟩ := st x List.mem_cons_self
    obtain ⟨b, ρ2, h3, hb, h4⟩ := we_of h2
    subst hb
    rw [List.length_cons] at hl
    have rest := fun (a : List PyData) (ha : a.length + xs.length ≤ 100000) => lc_gen enc p g ρ0 xs a ha (fun z hz => st z (List.mem_cons_of_mem _ hz))
    rw [List.map_cons, lcL, h1]
    show bnd0 (tt ρ1) _ = _
    rw [h3, bnd0_ok]
    by_cases hp : p x = true
    · have h4 := h4.1 hp
      obtain ⟨y, ρ3, h5, rfl, h6⟩ := we_of h4
      rw [if_pos hp, h5, bnd0_ok, if_pos (by omega), h6, rest _ (by rw [List.length_append, List.length_singleton]; omega), List.filter_cons_of_pos hp, List.map_cons, List.append_assoc]
      rfl
    · have h4 := h4.2 (by simpa using hp)
      rw [if_neg hp, h4, rest acc (by omega), List.filter_cons_of_neg hp]
theorem wl_gen {β : Type} {tg : DG} {tt : DB} {e : DE} {vs : List Nat} (enc : β → PyData) (p : β → Bool) (g : β → PyData) (xs : List β) {ρ0 : Rho} {K : List PyData → Rho → Prop} (hl : xs.length ≤ 100000)
    (h : ∀ x ∈ xs, Wtg tg (enc x) ρ0 fun ρ1 => We (tt ρ1) (fun b ρ2 => b = p x ∧ Wif (p x) (We (e ρ2) (fun y ρ3 => y = g x ∧ wipeR ρ3 vs = ρ0) (fun _ _ _ => False)) (wipeR ρ2 vs = ρ0)) (fun _ _ _ => False))
    (k : K ((xs.filter p).map g) ρ0) : Wl (lcL tg tt e vs (xs.map enc) [] ρ0) K :=
  wl_eq (by rw [lc_gen enc p g ρ0 xs [] (by simpa using hl) h, List.nil_append]) k
theorem wl_genD {tg : DG} {tt : DB} {e : DE} {vs : List Nat} (p : PyData → Bool) (g : PyData → PyData) {ds : List PyData} {ρ0 : Rho} {K : List PyData → Rho → Prop} (hl : ds.length ≤ 100000)
    (h : ∀ x ∈ ds, Wtg tg x ρ0 fun ρ1 => We (tt ρ1) (fun b ρ2 => b = p x ∧ Wif (p x) (We (e ρ2) (fun y ρ3 => y = g x ∧ wipeR ρ3 vs = ρ0) (fun _ _ _ => False)) (wipeR ρ2 vs = ρ0)) (fun _ _ _ => False))
    (k : K ((ds.filter p).map g) ρ0) : Wl (lcL tg tt e vs ds [] ρ0) K := by
  have := wl_gen (tg := tg) (tt := tt) (e := e) (vs := vs) (K := K) id p g ds hl h k
  rw [List.map_id] at this
  exact this
/-- without a test -/
theorem wl_map {β : Type} {tg : DG} {e : DE} {vs : List Nat} (enc : β → PyData) (g : β → PyData) (xs : List β) {ρ0 : Rho} {K : List PyData → Rho → Prop} (hl : xs.length ≤ 100000)
    (h : ∀ x ∈ xs, Wtg tg (enc x) ρ0 fun ρ1 => We (e ρ1) (fun y ρ3 => y = g x ∧ wipeR ρ3 vs = ρ0) (fun _ _ _ => False))
    (k : K (xs.map g) ρ0) : Wl (lcL tg yesB e vs (xs.map enc) [] ρ0) K :=
  wl_gen enc (fun _ => true) g xs hl (fun x hx => by
    obtain ⟨ρ1, e1, h1⟩ := h x hx
    exact ⟨ρ1, e1, we_ok ⟨rfl, wif_t h1⟩⟩) (by rw [List.filter_eq_self.mpr (fun _ _ => rfl)]; exact k)
theorem wl_mapD {tg : DG} {e : DE} {vs : List Nat} (g : PyData → PyData) {ds : List PyData} {ρ0 : Rho} {K : List PyData → Rho → Prop} (hl : ds.length ≤ 100000)
    (h : ∀ x ∈ ds, Wtg tg x ρ0 fun ρ1 => We (e ρ1) (fun y ρ3 => y = g x ∧ wipeR ρ3 vs = ρ0) (fun _ _ _ => False))
    (k : K (ds.map g) ρ0) : Wl (lcL tg yesB e vs ds [] ρ0) K := by
  have := wl_map (tg := tg) (e := e) (vs := vs) (K := K) id g ds hl h k
  rw [List.map_id] at this
  exact this
/-- one that changes a box: what holds of what is done, what is made, the slots -/
theorem wl_inv {β : Type} {tg : DG} {tt : DB} {e : DE} {vs : List Nat} (enc : β → PyData) (I : List β → List PyData → Rho → Prop) {K : List PyData → Rho → Prop} : ∀ (xs pre : List β) (acc : List PyData) (ρ : Rho), I pre acc ρ → acc.length + xs.length ≤ 100000 →
    (∀ (pre : List β) (x : β) (acc : List PyData) (ρ : Rho), x ∈ xs → I pre acc ρ → Wtg tg (enc x) ρ fun ρ1 => We (tt ρ1) (fun b ρ2 => Wif b (We (e ρ2) (fun y ρ3 => I (pre ++ [x]) (acc ++ [y]) (wipeR ρ3 vs)) (fun _ _ _ => False)) (I (pre ++ [x]) acc (wipeR ρ2 vs))) (fun _ _ _ => False)) →
    (∀ out ρ, I (pre ++ xs) out ρ → K out ρ) → Wl (lcL tg tt e vs (xs.map enc) acc ρ) K
  | [], pre, acc, ρ, h, _, _, k => ⟨acc, ρ, rfl, k acc ρ (by rw [List.append_nil]; exact h)⟩
  | x :: xs, pre, acc, ρ, h, hl, st, k => by
    obtain ⟨ρ1, h1, h2⟩ := st pre x acc ρ List.mem_cons_self h
    obtain ⟨b, ρ2, h3, h4⟩ := we_of h2
    rw [List.length_cons] at hl
    rw [List.map_cons, lcL, h1]
    show Wl (bnd0 (tt ρ1) _) K
    rw [h3, bnd0_ok]
    cases b with
    | true =>
      obtain ⟨y, ρ3, h5, h6⟩ := we_of (h4.1 rfl)
      rw [if_pos rfl, h5, bnd0_ok, if_pos (by omega)]
      exact wl_inv enc I xs (pre ++ [x]) (acc ++ [y]) _ h6 (by rw [List.length_append, List.length_singleton]; omega) (fun pre z acc ρ hz => st pre z acc ρ (List.mem_cons_of_mem _ hz)) (fun out ρ hi => k out ρ (by rw [List.append_assoc] at hi; exact hi))
    | false =>
      rw [if_neg (by decide)]
      exact wl_inv enc I xs (pre ++ [x]) acc _ (h4.2 rfl) (by omega) (fun pre z acc ρ hz => st pre z acc ρ (List.mem_cons_of_mem _ hz)) (fun out ρ hi => k out ρ (by rw [List.append_assoc] at hi; exact hi))
theorem we_lc2 {tg tg1 : DG} {tt tt1 : DB} {fl1 : DL} {e : DE} {vs vs1 : List Nat} (h : We (fl ρ) (fun ds ρ1 => Wwp ρ1 vs fun ρ2 => Wl (lc2L tg tt fl1 tg1 tt1 e vs vs1 ds [] ρ2) fun out ρ3 => Wwp ρ3 vs fun ρ4 => QL out ρ4) X) : We (lc2M fl tg tt fl1 tg1 tt1 e vs vs1 ρ) QL X :=
  bnd_we (we_mono h (fun ds ρ1 h1 => by
    unfold Wwp at h1
    dsimp only at h1
    obtain ⟨a, ρ3, e, h2⟩ := h1
    rw [e]
    exact we_ok h2) fun _ _ _ h => h)
theorem lc2_gen {β γ : Type} {tg tg1 : DG} {fl1 : DL} {e : DE} {vs vs1 : List Nat} (enc : β → PyData) (enc1 : γ → PyData) (F : β → List γ) (g : β → γ → PyData) (ρ0 : Rho) : ∀ (xs : List β) (acc : List PyData), acc.length + (xs.flatMap F).length ≤ 100000 →
    (∀ x ∈ xs, Wtg tg (enc x) ρ0 fun ρ1 => We (fl1 ρ1) (fun ds ρ2 => ds = (F x).map enc1 ∧ Wwp ρ2 vs1 fun ρ3 => wipeR ρ3 vs = ρ0 ∧ ∀ y ∈ F x, Wtg tg1 (enc1 y) ρ3 fun ρ4 => We (e ρ4) (fun z ρ5 => z = g x y ∧ wipeR ρ5 vs1 = ρ3) (fun _ _ _ => False)) (fun _ _ _ => False)) →
    lc2L tg yesB fl1 tg1 yesB e vs vs1 (xs.map enc) acc ρ0 = some (acc ++ xs.flatMap (fun x => (F x).map (g x)), ρ0)
  | [], acc, _, _ => by rw [List.map_nil, List.flatMap_nil, List.append_nil]; rfl
  | x :: xs, acc, hl, st => by
    obtain ⟨ρ1, h1, h2⟩ := st x List.mem_cons_self
    obtain ⟨ds, ρ2, h3, rfl, h4⟩ := we_of h2
    obtain ⟨h5, h6⟩ : wipeR (wipeR ρ2 vs1) vs = ρ0 ∧ _ := h4
    rw [List.flatMap_cons, List.length_append] at hl
    have e1 := lc_gen (tg := tg1) (tt := yesB) (e := e) (vs := vs1) enc1 (fun _ => true) (g x) (wipeR ρ2 vs1) (F x) acc (by omega) (fun y hy => by
      obtain ⟨ρ4, g1, g2⟩ := h6 y hy
      exact ⟨ρ4, g1, we_ok ⟨rfl, wif_t g2⟩⟩)
    rw [List.filter_eq_self.mpr (fun _ _ => rfl)] at e1
    rw [List.map_cons, lc2L, h1]
    show bnd0 (some (.ok true ρ1)) _ = _
    rw [bnd0_ok, if_pos rfl, h3, bnd0_ok]
    show (Option.bind (lcL tg1 yesB e vs1 _ _ _) _) = _
    rw [e1]
    show lc2L _ _ _ _ _ _ _ _ _ _ (wipeR (wipeR ρ2 vs1) vs) = _
    rw [h5, lc2_gen enc enc1 F g ρ0 xs _ (by rw [List.length_append, List.length_map]; omega) (fun z hz => st z (List.mem_cons_of_mem _ hz)), List.flatMap_cons, List.append_assoc]
theorem wl2_gen {β γ : Type} {tg tg1 : DG} {fl1 : DL} {e : DE} {vs vs1 : List Nat} (enc : β → PyData) (enc1 : γ → PyData) (F : β → List γ) (g : β → γ → PyData) (xs : List β) {ρ0 : Rho} {K : List PyData → Rho → Prop} (hl : (xs.flatMap F).length ≤ 100000)
    (h : ∀ x ∈ xs, Wtg tg (enc x) ρ0 fun ρ1 => We (fl1 ρ1) (fun ds ρ2 => ds = (F x).map enc1 ∧ Wwp ρ2 vs1 fun ρ3 => wipeR ρ3 vs = ρ0 ∧ ∀ y ∈ F x, Wtg tg1 (enc1 y) ρ3 fun ρ4 => We (e ρ4) (fun z ρ5 => z = g x y ∧ wipeR ρ5 vs1 = ρ3) (fun _ _ _ => False)) (fun _ _ _ => False))
    (k : K (xs.flatMap fun x => (F x).map (g x)) ρ0) : Wl (lc2L tg yesB fl1 tg1 yesB e vs vs1 (xs.map enc) [] ρ0) K :=
  wl_eq (by rw [lc2_gen enc enc1 F g ρ0 xs [] (by simpa using hl) h, List.nil_append]) k
/-! ### while -/
theorem ws_while {c : DB} {body : DS} (I : Nat → Rho → Prop) : ∀ (m : Nat) (ρ : Rho), I m ρ →
    (∀ m ρ, I m ρ → We (c ρ) (fun b ρ1 => Wif b (Ws (body ρ1) (Wlo (fun ρ2 => ∃ m', m' < m ∧ I m' ρ2) QS)) (QS (.nx ρ1))) (fun c d ρ1 => QS (.ex c d ρ1))) → Ws (whileS c body ρ) QS := by
  have main : ∀ (n m : Nat) (ρ : Rho), m < n → I m ρ → (∀ m ρ, I m ρ → We (c ρ) (fun b ρ1 => Wif b (Ws (body ρ1) (Wlo (fun ρ2 => ∃ m', m' < m ∧ I m' ρ2) QS)) (QS (.nx ρ1))) (fun c d ρ1 => QS (.ex c d ρ1))) → Ws (whileN c body n ρ) QS := by
    intro n
    induction n with
    | zero => intro m ρ hm; omega
    | succ n ih =>
      intro m ρ hm hI st
      unfold whileN
      refine bndS_ws (we_mono (st m ρ hI) (fun b ρ1 h1 => ?_) fun _ _ _ h => h)
      cases b with
      | false => exact ws_ok (h1.2 rfl)
      | true =>
        rw [if_pos rfl]
        have h2 := h1.1 rfl
        obtain ⟨o, eb, h2⟩ := h2
        rw [eb]
        cases o with
        | nx ρ2 => obtain ⟨m', h3, h4⟩ := h2; exact ih m' ρ2 (by omega) h4 st
        | ct ρ2 => obtain ⟨m', h3, h4⟩ := h2; exact ih m' ρ2 (by omega) h4 st
        | _ => exact ws_ok h2
  intro m ρ hI st
  obtain ⟨o, e, h⟩ := ws_of (main (m + 1) m ρ (by omega) hI st)
  exact ws_eq (whileS_of e) h
/-! ### defs -/
theorem denQ_of {N : Nat} {G : DS} {r : PyData} (h : Ws (G (rho0 N ds)) fun o => outQ o = some r) : denQ N G ds = some r := by
  obtain ⟨o, e, h1⟩ := ws_of h
  unfold denQ; rw [e]; exact h1
theorem denE_of {N : Nat} {G : DS} {r : Rs} (h : Ws (G (rho0 N ds)) fun o => outE o = some r) : denE N G ds = some r := by
  obtain ⟨o, e, h1⟩ := ws_of h
  unfold denE; rw [e]; exact h1
theorem denN_of {N : Nat} {G : DS} {r : List PyData} (h : Ws (G (rho0 N ds)) fun o => outN o = some r) : denN N G ds = some r := by
  obtain ⟨o, e, h1⟩ := ws_of h
  unfold denN; rw [e]; exact h1
theorem denB_of {N : Nat} {G : DS} {bd : List PyData} {P : PyData × List PyData → Prop} (h : Ws (G (rhoB N bd ds)) fun o => ∃ r, outB o = some r ∧ P r) : Wv (denB N G bd ds) P := by
  obtain ⟨o, e, r, h1, h2⟩ := ws_of h
  unfold denB; rw [e]; exact wv h1 h2
theorem denQ_wv {N : Nat} {G : DS} {P : PyData → Prop} (h : Ws (G (rho0 N ds)) fun o => ∃ r, outQ o = some r ∧ P r) : Wv (denQ N G ds) P := by
  obtain ⟨o, e, r, h1, h2⟩ := ws_of h
  unfold denQ; rw [e]; exact wv h1 h2
end
/-! ### the same, looked up by instances -/
section
variable {α : Type} {ρ ρ1 ρ2 : Rho} {f : DE} {fl : DL} {d : PyData} {ds : List PyData} {i n : Nat} {tt : Bool} {Q : PyData → Rho → Prop} {QL : List PyData → Rho → Prop} {X : XC} {QS : Oc → Prop}
theorem wi_var [h : LookAt ρ i (.fro d)] (q : Q d ρ) : We (varM i ρ) Q X := we_var h.h q
theorem wi_letF [h : LookAt ρ i (.fro d)] (q : Q d ρ) : We (letM i ρ) Q X := we_letF h.h q
theorem wi_letO [h : LookAt ρ i (.own tt ds)] (q : Wset ρ i (.fro (.list ds)) fun ρ1 => Q (.list ds) ρ1) : We (letM i ρ) Q X := we_letO h.h q
theorem wi_lenO [h : LookAt ρ i (.own tt ds)] (q : Q (.int ds.length) ρ) : We (lenOM i ρ) Q X := we_lenO h.h q
theorem wi_lenF [h : LookAt ρ i (.fro (.list ds))] (q : Q (.int ds.length) ρ) : We (lenOM i ρ) Q X := we_lenF h.h q
theorem wi_tupO [h : LookAt ρ i (.own tt ds)] (q : Q (.tuple ds) ρ) : We (tupOM i ρ) Q X := we_tupO h.h q
theorem wi_tupF [h : LookAt ρ i (.fro (.list ds))] (q : Q (.tuple ds) ρ) : We (tupOM i ρ) Q X := we_tupF h.h q
theorem wi_ixO [h : LookAt ρ i (.own tt ds)] (q : We (f ρ) (fun k ρ1 => Wown ρ1 i fun _ ds => Wv (ixP (.list ds) k) fun d => Q d ρ1) X) : We (ixOM i f ρ) Q X := we_ixO h.h q
theorem wi_ixF [h : LookAt ρ i (.fro (.list ds))] (q : We (f ρ) (fun k ρ1 => Wv (ixP (.list ds) k) fun d => Q d ρ1) X) : We (ixOM i f ρ) Q X := we_ixF h.h q
theorem wi_enumO [h : LookAt ρ i (.own tt ds)] (q : Wset ρ i (.fro (.list ds)) fun ρ1 => QL (enumD 0 ds) ρ1) : We (enumOI i ρ) QL X := we_enumOI h.h q
theorem wi_callB {fn : FnB} [h0 : LookAt ρ i (.own tt ds)] (h : We (fl ρ) (fun as ρ1 => Wown ρ1 i fun t' bd => Wlen as.length n (Wv (fn bd as) fun r => Wp2 r fun d b2 => Wset ρ1 i (.own t' b2) fun ρ2 => Q d ρ2)) X) : We (callB n i fn fl ρ) Q X := we_callB h0.h h
theorem wi_app [h0 : LookAt ρ i (.own tt ds)] (h : We (f ρ) (fun d ρ1 => Wown ρ1 i fun t' ds => ds.length < 100000 ∧ Wset ρ1 i (.own t' (ds ++ [d])) fun ρ2 => QS (.nx ρ2)) fun c d ρ1 => QS (.ex c d ρ1)) : Ws (appS i f ρ) QS := ws_app h0.h h
theorem wi_ext [h0 : LookAt ρ i (.own tt ds)] (h : We (f ρ) (fun d ρ1 => Wseq d fun es => Wown ρ1 i fun t' ds => ds.length + es.length ≤ 100000 ∧ Wset ρ1 i (.own t' (ds ++ es)) fun ρ2 => QS (.nx ρ2)) fun c d ρ1 => QS (.ex c d ρ1)) : Ws (extS i f ρ) QS := ws_ext h0.h h
theorem wi_own {K : Bool → List PyData → Prop} [h : LookAt ρ i (.own tt ds)] (k : K tt ds) : Wown ρ i K := wown h.h k
theorem wi_tg {tg : DG} {K : Rho → Prop} [h : TgAt tg d ρ ρ1] (k : K ρ1) : Wtg tg d ρ K := wtg h.h k
end
end Pd
/-! ### steps by instances -/
namespace Pd
open PySem L2 Evl
class Stp (G : Prop) (N : outParam Prop) : Prop where
  h : N → G
section
variable {α : Type} {ρ ρ1 ρ2 ρ3 : Rho} {f g h : DE} {fl gl : DL} {t u : DB} {a b c d : PyData} {as ds es : List PyData} {i j n m : Nat} {k : Bool} {Q : PyData → Rho → Prop} {QL : List PyData → Rho → Prop} {QB : Bool → Rho → Prop} {X : XC} {QS : Oc → Prop}
instance s_wp2i {β γ : Type} {x : β} {y : γ} {K : β → γ → Prop} : Stp (Wp2 (x, y) K) (K x y) := ⟨wp2i⟩
instance s_ws_asg  : Stp (Ws (asgS i f ρ) QS) (We (f ρ) (fun d ρ1 => Wset ρ1 i (.fro d) fun ρ2 => QS (.nx ρ2)) fun c d ρ1 => QS (.ex c d ρ1)) := ⟨ws_asg⟩
instance s_ws_ret  : Stp (Ws (retS f ρ) QS) (We (f ρ) (fun d ρ1 => QS (.rt d ρ1)) fun c d ρ1 => QS (.ex c d ρ1)) := ⟨ws_ret⟩
instance s_wk_nx {K : Rho → Prop} : Stp (Wk K QS (.nx ρ)) (K ρ) := ⟨wk_nx⟩
instance s_wif_t {A B : Prop} : Stp (Wif true A B) (A) := ⟨wif_t⟩
instance s_wif_f {A B : Prop} : Stp (Wif false A B) (B) := ⟨wif_f⟩
instance s_wif_not {A B : Prop} : Stp (Wif (!k) A B) (Wif k B A) := ⟨wif_not⟩
instance s_we_con  : Stp (We (conM d ρ) Q X) (Q d ρ) := ⟨we_con⟩
instance s_we_op {op : Op} : Stp (We (opM op f g ρ) Q X) (We (f ρ) (fun a ρ1 => We (g ρ1) (fun b ρ2 => Wv (op a b) fun d => Q d ρ2) X) X) := ⟨we_op⟩
instance s_we_cons  : Stp (We (consM f fl ρ) QL X) (We (f ρ) (fun a ρ1 => We (fl ρ1) (fun as ρ2 => QL (a :: as) ρ2) X) X) := ⟨we_cons⟩
instance s_we_nil  : Stp (We (nilM ρ) QL X) (QL [] ρ) := ⟨we_nil⟩
instance s_we_bool  : Stp (We (boolM f ρ) QB X) (We (f ρ) (fun d ρ1 => Wbool d fun b => QB b ρ1) X) := ⟨we_bool⟩
instance s_wbool {K : Bool → Prop} : Stp (Wbool (.bool k) K) (K k) := ⟨wbool⟩
instance s_we_call {fn : FnQ} : Stp (We (callM n fn fl ρ) Q X) (We (fl ρ) (fun as ρ1 => Wlen as.length n (Wv (fn as) fun d => Q d ρ1)) X) := ⟨we_call⟩
instance s_we_callE {fn : FnE} : Stp (We (callE n fn fl ρ) Q X) (We (fl ρ) (fun as ρ1 => Wlen as.length n (Wr (fn as) (fun d => Q d ρ1) fun c d => X c d ρ1)) X) := ⟨we_callE⟩
instance s_we_ca {op : List PyData → Option PyData} : Stp (We (caM op fl ρ) Q X) (We (fl ρ) (fun as ρ1 => Wv (op as) fun d => Q d ρ1) X) := ⟨we_ca⟩
instance s_we_orB  : Stp (We (orB t u ρ) QB X) (We (t ρ) (fun b ρ1 => Wif b (QB true ρ1) (We (u ρ1) QB X)) X) := ⟨we_orB⟩
instance s_we_andB  : Stp (We (andB t u ρ) QB X) (We (t ρ) (fun b ρ1 => Wif b (We (u ρ1) QB X) (QB false ρ1)) X) := ⟨we_andB⟩
instance s_we_notB  : Stp (We (notB t ρ) QB X) (We (t ρ) (fun b ρ1 => QB (!b) ρ1) X) := ⟨we_notB⟩
instance s_we_tru  : Stp (We (truB f ρ) QB X) (We (f ρ) (fun d ρ1 => Wv (truD d) fun b => QB b ρ1) X) := ⟨we_tru⟩
instance s_we_andV  : Stp (We (andV f g ρ) Q X) (We (f ρ) (fun d ρ1 => Wbool d fun b => Wif b (We (g ρ1) Q X) (Q (.bool false) ρ1)) X) := ⟨we_andV⟩
instance s_we_orV  : Stp (We (orV f g ρ) Q X) (We (f ρ) (fun d ρ1 => Wbool d fun b => Wif b (Q (.bool true) ρ1) (We (g ρ1) Q X)) X) := ⟨we_orV⟩
instance s_we_notV  : Stp (We (notV f ρ) Q X) (We (f ρ) (fun d ρ1 => Wbool d fun b => Q (.bool (!b)) ρ1) X) := ⟨we_notV⟩
instance s_we_if  : Stp (We (ifM t f g ρ) Q X) (We (t ρ) (fun b ρ1 => Wif b (We (f ρ1) Q X) (We (g ρ1) Q X)) X) := ⟨we_if⟩
instance s_we_isi1 {s : String} : Stp (We (isi1M s f ρ) Q X) (We (f ρ) (fun d ρ1 => Wisi d s fun b => Q (.bool b) ρ1) X) := ⟨we_isi1⟩
instance s_we_isi2 {s s' : String} : Stp (We (isi2M s s' f ρ) Q X) (We (f ρ) (fun d ρ1 => Wisi d s fun b => Wisi d s' fun b' => Q (.bool (b || b')) ρ1) X) := ⟨we_isi2⟩
instance s_we_tup  : Stp (We (tupM fl ρ) Q X) (We (fl ρ) (fun as ρ1 => Wcap as.length (Q (.tuple as) ρ1)) X) := ⟨we_tup⟩
instance s_we_lst  : Stp (We (lstM fl ρ) QL X) (We (fl ρ) (fun as ρ1 => Wcap as.length (QL as ρ1)) X) := ⟨we_lst⟩
instance s_we_list  : Stp (We (listM fl ρ) Q X) (We (fl ρ) (fun as ρ1 => Q (.list as) ρ1) X) := ⟨we_list⟩
instance s_we_un {op : PyData → Option PyData} : Stp (We (unM op f ρ) Q X) (We (f ρ) (fun a ρ1 => Wv (op a) fun d => Q d ρ1) X) := ⟨we_un⟩
instance s_we_sl {lo hi : DO} : Stp (We (slM f lo hi ρ) Q X) (We (f ρ) (fun d ρ1 => We (lo ρ1) (fun l ρ2 => We (hi ρ2) (fun r ρ3 => Wv (slP d l r) fun e => Q e ρ3) X) X) X) := ⟨we_sl⟩
instance s_we_no {P : Option Int → Rho → Prop} : Stp (We (noM ρ) P X) (P none ρ) := ⟨we_no⟩
instance s_we_part {P : Option Int → Rho → Prop} : Stp (We (partM f ρ) P X) (We (f ρ) (fun d ρ1 => Wint d fun z => P (some z) ρ1) X) := ⟨we_part⟩
instance s_wint {K : Int → Prop} {z : Int} : Stp (Wint (.int z) K) (K z) := ⟨wint⟩
instance s_we_chain {op op' : Op} : Stp (We (chainM op op' f g h ρ) Q X) (We (f ρ) (fun a ρ1 => We (g ρ1) (fun b ρ2 => Wv (op a b) fun d => Wbool d fun k => Wif k (We (h ρ2) (fun c ρ3 => Wv (op' b c) fun d => Wbool d fun k => Q (.bool k) ρ3) X) (Q (.bool false) ρ2)) X) X) := ⟨we_chain⟩
instance s_ws_next  : Stp (Ws (nextS ρ) QS) (QS (.nx ρ)) := ⟨ws_next⟩
instance s_ws_asgO  : Stp (Ws (asgO i fl ρ) QS) (We (fl ρ) (fun ds ρ1 => Wset ρ1 i (.own false ds) fun ρ2 => QS (.nx ρ2)) fun c d ρ1 => QS (.ex c d ρ1)) := ⟨ws_asgO⟩
instance s_ws_asgG {tg : DG} : Stp (Ws (asgG tg f ρ) QS) (We (f ρ) (fun d ρ1 => Wtg tg d ρ1 fun ρ2 => QS (.nx ρ2)) fun c d ρ1 => QS (.ex c d ρ1)) := ⟨ws_asgG⟩
instance s_ws_drop  : Stp (Ws (dropS f ρ) QS) (We (f ρ) (fun _ ρ1 => QS (.nx ρ1)) fun c d ρ1 => QS (.ex c d ρ1)) := ⟨ws_drop⟩
instance s_ws_retO  : Stp (Ws (retO fl ρ) QS) (We (fl ρ) (fun d ρ1 => QS (.ro d ρ1)) fun c d ρ1 => QS (.ex c d ρ1)) := ⟨ws_retO⟩
instance s_ws_retN  : Stp (Ws (retN ρ) QS) (QS (.rt .none ρ)) := ⟨ws_retN⟩
instance s_ws_raise {c : Nat} : Stp (Ws (raiseS c f ρ) QS) (We (f ρ) (fun d ρ1 => QS (.ex c d ρ1)) fun c d ρ1 => QS (.ex c d ρ1)) := ⟨ws_raise⟩
instance s_ws_for {tg : DG} {body : DS} : Stp (Ws (forS fl tg body ρ) QS) (We (fl ρ) (fun ds ρ1 => WlS tg body ds ρ1 QS) fun c d ρ1 => QS (.ex c d ρ1)) := ⟨ws_for⟩
instance s_ws_break  : Stp (Ws (breakS ρ) QS) (QS (.bk ρ)) := ⟨ws_break⟩
instance s_ws_cont  : Stp (Ws (contS ρ) QS) (QS (.ct ρ)) := ⟨ws_cont⟩
instance s_ws_par  : Stp (Ws (parS i j fl ρ) QS) (We (fl ρ) (fun as ρ1 => ∃ a b, as = [a, b] ∧ Wset ρ1 i (.fro a) fun ρ2 => Wset ρ2 j (.fro b) fun ρ3 => QS (.nx ρ3)) fun c d ρ1 => QS (.ex c d ρ1)) := ⟨ws_par⟩
instance s_ws_set {fi fe : DE} : Stp (Ws (setS i fi fe ρ) QS) (We (fe ρ) (fun d ρ1 => Wown ρ1 i fun _ _ => We (fi ρ1) (fun k ρ2 => Wint k fun z => Wown ρ2 i fun t' ds => ∃ j, at? ds.length z = some j ∧ Wset ρ2 i (.own t' (ds.set j d)) fun ρ3 => QS (.nx ρ3)) fun c d ρ1 => QS (.ex c d ρ1)) fun c d ρ1 => QS (.ex c d ρ1)) := ⟨ws_set⟩
instance s_wk_rt {K : Rho → Prop} : Stp (Wk K QS (.rt d ρ)) (QS (.rt d ρ)) := ⟨wk_rt⟩
instance s_wk_ro {K : Rho → Prop} : Stp (Wk K QS (.ro ds ρ)) (QS (.ro ds ρ)) := ⟨wk_ro⟩
instance s_wk_ex {K : Rho → Prop} : Stp (Wk K QS (.ex i d ρ)) (QS (.ex i d ρ)) := ⟨wk_ex⟩
instance s_wk_bk {K : Rho → Prop} : Stp (Wk K QS (.bk ρ)) (QS (.bk ρ)) := ⟨wk_bk⟩
instance s_wk_ct {K : Rho → Prop} : Stp (Wk K QS (.ct ρ)) (QS (.ct ρ)) := ⟨wk_ct⟩
instance s_wl_nx {K : Rho → Prop} : Stp (Wlo K QS (.nx ρ)) (K ρ) := ⟨wl_nx⟩
instance s_wl_ct {K : Rho → Prop} : Stp (Wlo K QS (.ct ρ)) (K ρ) := ⟨wl_ct⟩
instance s_wl_bk {K : Rho → Prop} : Stp (Wlo K QS (.bk ρ)) (QS (.nx ρ)) := ⟨wl_bk⟩
instance s_wl_rt {K : Rho → Prop} : Stp (Wlo K QS (.rt d ρ)) (QS (.rt d ρ)) := ⟨wl_rt⟩
instance s_wl_ro {K : Rho → Prop} : Stp (Wlo K QS (.ro ds ρ)) (QS (.ro ds ρ)) := ⟨wl_ro⟩
instance s_wl_ex {K : Rho → Prop} : Stp (Wlo K QS (.ex i d ρ)) (QS (.ex i d ρ)) := ⟨wl_ex⟩
instance s_we_kw {is : List Nat} {fn : FnQ} : Stp (We (kwM m is n fn fl ρ) Q X) (We (fl ρ) (fun as ρ1 => Wlen as.length m (Wlen (sel is as).length n (Wv (fn (sel is as)) fun d => Q d ρ1))) X) := ⟨we_kw⟩
instance s_we_kwE {is : List Nat} {fn : FnE} : Stp (We (kwE m is n fn fl ρ) Q X) (We (fl ρ) (fun as ρ1 => Wlen as.length m (Wlen (sel is as).length n (Wr (fn (sel is as)) (fun d => Q d ρ1) fun c d => X c d ρ1))) X) := ⟨we_kwE⟩
instance s_we_callN {fn : FnN} : Stp (We (callN n fn fl ρ) QL X) (We (fl ρ) (fun as ρ1 => Wlen as.length n (Wv (fn as) fun d => QL d ρ1)) X) := ⟨we_callN⟩
instance s_we_lc {tg : DG} {tt : DB} {e : DE} {vs : List Nat} : Stp (We (lcM fl tg tt e vs ρ) QL X) (We (fl ρ) (fun ds ρ1 => Wwp ρ1 vs fun ρ2 => Wl (lcL tg tt e vs ds [] ρ2) fun out ρ3 => Wwp ρ3 vs fun ρ4 => QL out ρ4) X) := ⟨we_lc⟩
instance s_we_lc2 {tg tg1 : DG} {tt tt1 : DB} {fl1 : DL} {e : DE} {vs vs1 : List Nat} : Stp (We (lc2M fl tg tt fl1 tg1 tt1 e vs vs1 ρ) QL X) (We (fl ρ) (fun ds ρ1 => Wwp ρ1 vs fun ρ2 => Wl (lc2L tg tt fl1 tg1 tt1 e vs vs1 ds [] ρ2) fun out ρ3 => Wwp ρ3 vs fun ρ4 => QL out ρ4) X) := ⟨we_lc2⟩
instance s_we_rng1  : Stp (We (rng1M fl ρ) QL X) (We (fl ρ) (fun as ρ1 => Wrng as fun r => QL (rangeD 0 r) ρ1) X) := ⟨we_rng1⟩
instance s_we_rng1I  : Stp (We (rng1I fl ρ) QL X) (We (fl ρ) (fun as ρ1 => Wrng as fun r => QL (rangeD 0 r) ρ1) X) := ⟨we_rng1I⟩
instance s_we_rng2I  : Stp (We (rng2I fl ρ) QL X) (We (fl ρ) (fun as ρ1 => Wrng2 as fun r s => QL (rangeD r (s - r).toNat) ρ1) X) := ⟨we_rng2I⟩
instance s_we_seqI  : Stp (We (seqI f ρ) QL X) (We (f ρ) (fun d ρ1 => Wseq d fun ds => QL ds ρ1) X) := ⟨we_seqI⟩
instance s_we_listI  : Stp (We (listI f ρ) QL X) (We (f ρ) (fun d ρ1 => Wlst d fun ds => QL ds ρ1) X) := ⟨we_listI⟩
instance s_we_tupI  : Stp (We (tupI f ρ) QL X) (We (f ρ) (fun d ρ1 => Wtup d fun ds => QL ds ρ1) X) := ⟨we_tupI⟩
instance s_we_enumSI  : Stp (We (enumSI fl ρ) QL X) (We (fl ρ) (fun as ρ1 => Wone as fun d => Wseq d fun ds => QL (enumD 0 ds) ρ1) X) := ⟨we_enumSI⟩
instance s_we_enumI  : Stp (We (enumI fl ρ) QL X) (We (fl ρ) (fun as ρ1 => Wone as fun d => Wlst d fun ds => QL (enumD 0 ds) ρ1) X) := ⟨we_enumI⟩
instance s_we_enumTI  : Stp (We (enumTI fl ρ) QL X) (We (fl ρ) (fun as ρ1 => Wone as fun d => Wtup d fun ds => QL (enumD 0 ds) ρ1) X) := ⟨we_enumTI⟩
instance s_wseq_l {K : List PyData → Prop} : Stp (Wseq (.list ds) K) (K ds) := ⟨wseq_l⟩
instance s_wseq_t {K : List PyData → Prop} : Stp (Wseq (.tuple ds) K) (K ds) := ⟨wseq_t⟩
instance s_wlst {K : List PyData → Prop} : Stp (Wlst (.list ds) K) (K ds) := ⟨wlst⟩
instance s_wtup {K : List PyData → Prop} : Stp (Wtup (.tuple ds) K) (K ds) := ⟨wtup⟩
instance s_wone {K : PyData → Prop} : Stp (Wone [d] K) (K d) := ⟨wone⟩
instance s_we_opN {op : Op} : Stp (We (opN op f g ρ) QL X) (We (f ρ) (fun a ρ1 => We (g ρ1) (fun b ρ2 => Wv (op a b) fun d => Wlst d fun ds => QL ds ρ2) X) X) := ⟨we_opN⟩
instance s_we_caN {op : List PyData → Option PyData} : Stp (We (caN op fl ρ) QL X) (We (fl ρ) (fun as ρ1 => Wv (op as) fun d => Wlst d fun ds => QL ds ρ1) X) := ⟨we_caN⟩
instance s_we_yesB  : Stp (We (yesB ρ) QB X) (QB true ρ) := ⟨we_yesB⟩
instance s_we_bl {op : List PyData → List PyData → Option PyData} : Stp (We (blM op f fl ρ) Q X) (We (f ρ) (fun a ρ1 => Wlst a fun ds => We (fl ρ1) (fun as ρ2 => Wv (op ds as) fun d => Q d ρ2) X) X) := ⟨we_bl⟩
instance s_we_told {hs : DH} {wr : PyData → PyData} : Stp (We (toldG hs wr f ρ) Q X) (We (f ρ) (fun d ρ1 => Q (wr d) ρ1) fun c d ρ1 => Wv (hs c d) fun r => Q r ρ1) := ⟨we_told⟩
instance s_we_heard {hs : DH} {wr : PyData → PyData} {fs : Nat → DE} : Stp (We (heardG hs wr fs f ρ) Q X) (We (f ρ) (fun d ρ1 => Wlam d fun j => We (toldG hs wr (fs j) ρ1) Q X) X) := ⟨we_heard⟩
instance s_wlam {K : Nat → Prop} : Stp (Wlam (lamD n) K) (K n) := ⟨wlam⟩
instance s_we_revN  : Stp (We (revN f ρ) QL X) (We (f ρ) (fun a ρ1 => Wv (revP a) fun d => Wlst d fun ds => QL ds ρ1) X) := ⟨we_revN⟩
instance s_wv_rev_t {ds : List PyData} {P : PyData → Prop} : Stp (Wv (revP (.tuple ds)) P) (P (.tuple ds.reverse)) := ⟨wv_rev_t⟩
instance s_wv_rev_l {ds : List PyData} {P : PyData → Prop} : Stp (Wv (revP (.list ds)) P) (P (.list ds.reverse)) := ⟨wv_rev_l⟩
instance s_wset [s : SetAt ρ i (sl : Sl) ρ1] {K : Rho → Prop} : Stp (Wset ρ i sl K) (K ρ1) := ⟨wset⟩
instance s_wwp {vs : List Nat} [s : WipeAt ρ vs ρ1] {K : Rho → Prop} : Stp (Wwp ρ vs K) (K ρ1) := ⟨wwp⟩
end
section
variable {α : Type} {ρ ρ1 ρ2 : Rho} {f : DE} {fl : DL} {d : PyData} {ds : List PyData} {i n : Nat} {tt : Bool} {Q : PyData → Rho → Prop} {QL : List PyData → Rho → Prop} {X : XC} {QS : Oc → Prop}
instance s_wi_var [h : LookAt ρ i (.fro d)] : Stp (We (varM i ρ) Q X) (Q d ρ) := ⟨wi_var⟩
instance s_wi_letF [h : LookAt ρ i (.fro d)] : Stp (We (letM i ρ) Q X) (Q d ρ) := ⟨wi_letF⟩
instance s_wi_letO [h : LookAt ρ i (.own tt ds)] : Stp (We (letM i ρ) Q X) (Wset ρ i (.fro (.list ds)) fun ρ1 => Q (.list ds) ρ1) := ⟨wi_letO⟩
instance s_wi_callB {fn : FnB} [h0 : LookAt ρ i (.own tt ds)] : Stp (We (callB n i fn fl ρ) Q X) (We (fl ρ) (fun as ρ1 => Wown ρ1 i fun t' bd => Wlen as.length n (Wv (fn bd as) fun r => Wp2 r fun d b2 => Wset ρ1 i (.own t' b2) fun ρ2 => Q d ρ2)) X) := ⟨wi_callB⟩
instance s_wi_own {K : Bool → List PyData → Prop} [h : LookAt ρ i (.own tt ds)] : Stp (Wown ρ i K) (K tt ds) := ⟨wi_own⟩
instance s_wi_tg {tg : DG} {K : Rho → Prop} [h : TgAt tg d ρ ρ1] : Stp (Wtg tg d ρ K) (K ρ1) := ⟨wi_tg⟩
instance s_wi_app [h0 : LookAt ρ i (.own tt ds)] : Stp (Ws (appS i f ρ) QS) (We (f ρ) (fun d ρ1 => Wown ρ1 i fun t' ds => ds.length < 100000 ∧ Wset ρ1 i (.own t' (ds ++ [d])) fun ρ2 => QS (.nx ρ2)) fun c d ρ1 => QS (.ex c d ρ1)) := ⟨wi_app⟩
instance s_wi_ext [h0 : LookAt ρ i (.own tt ds)] : Stp (Ws (extS i f ρ) QS) (We (f ρ) (fun d ρ1 => Wseq d fun es => Wown ρ1 i fun t' ds => ds.length + es.length ≤ 100000 ∧ Wset ρ1 i (.own t' (ds ++ es)) fun ρ2 => QS (.nx ρ2)) fun c d ρ1 => QS (.ex c d ρ1)) := ⟨wi_ext⟩
instance s_wi_lenO [h : LookAt ρ i (.own tt ds)] : Stp (We (lenOM i ρ) Q X) (Q (.int ds.length) ρ) := ⟨wi_lenO⟩
instance s_wi_lenF [h : LookAt ρ i (.fro (.list ds))] : Stp (We (lenOM i ρ) Q X) (Q (.int ds.length) ρ) := ⟨wi_lenF⟩
instance s_wi_tupO [h : LookAt ρ i (.own tt ds)] : Stp (We (tupOM i ρ) Q X) (Q (.tuple ds) ρ) := ⟨wi_tupO⟩
instance s_wi_tupF [h : LookAt ρ i (.fro (.list ds))] : Stp (We (tupOM i ρ) Q X) (Q (.tuple ds) ρ) := ⟨wi_tupF⟩
instance s_wi_ixO [h : LookAt ρ i (.own tt ds)] : Stp (We (ixOM i f ρ) Q X) (We (f ρ) (fun k ρ1 => Wown ρ1 i fun _ ds => Wv (ixP (.list ds) k) fun d => Q d ρ1) X) := ⟨wi_ixO⟩
instance s_wi_ixF [h : LookAt ρ i (.fro (.list ds))] : Stp (We (ixOM i f ρ) Q X) (We (f ρ) (fun k ρ1 => Wv (ixP (.list ds) k) fun d => Q d ρ1) X) := ⟨wi_ixF⟩
instance s_wi_enumO [h : LookAt ρ i (.own tt ds)] : Stp (We (enumOI i ρ) QL X) (Wset ρ i (.fro (.list ds)) fun ρ1 => QL (enumD 0 ds) ρ1) := ⟨wi_enumO⟩
end
section
variable {α : Type} {ρ ρ1 ρ2 ρ3 : Rho} {f g h : DE} {fl gl : DL} {t u : DB} {a b c d : PyData} {as ds es : List PyData} {i j n m : Nat} {k : Bool} {Q : PyData → Rho → Prop} {QL : List PyData → Rho → Prop} {QB : Bool → Rho → Prop} {X : XC} {QS : Oc → Prop}
variable {K : Bool → Prop} {x y : PyData} {ds es : List PyData} {i j : Int} {P : PyData → Prop}
instance s_wisi_none_tuple  : Stp (Wisi .none "tuple" K) (K false) := ⟨wisi_none_tuple⟩
instance s_wisi_none_list  : Stp (Wisi .none "list" K) (K false) := ⟨wisi_none_list⟩
instance s_wisi_none_int  : Stp (Wisi .none "int" K) (K false) := ⟨wisi_none_int⟩
instance s_wisi_none_bool  : Stp (Wisi .none "bool" K) (K false) := ⟨wisi_none_bool⟩
instance s_wisi_none_str  : Stp (Wisi .none "str" K) (K false) := ⟨wisi_none_str⟩
instance s_wisi_bool_tuple {z : Bool} : Stp (Wisi (.bool z) "tuple" K) (K false) := ⟨wisi_bool_tuple⟩
instance s_wisi_bool_list {z : Bool} : Stp (Wisi (.bool z) "list" K) (K false) := ⟨wisi_bool_list⟩
instance s_wisi_bool_int {z : Bool} : Stp (Wisi (.bool z) "int" K) (K true) := ⟨wisi_bool_int⟩
instance s_wisi_bool_bool {z : Bool} : Stp (Wisi (.bool z) "bool" K) (K true) := ⟨wisi_bool_bool⟩
instance s_wisi_bool_str {z : Bool} : Stp (Wisi (.bool z) "str" K) (K false) := ⟨wisi_bool_str⟩
instance s_wisi_int_tuple {z : Int} : Stp (Wisi (.int z) "tuple" K) (K false) := ⟨wisi_int_tuple⟩
instance s_wisi_int_list {z : Int} : Stp (Wisi (.int z) "list" K) (K false) := ⟨wisi_int_list⟩
instance s_wisi_int_int {z : Int} : Stp (Wisi (.int z) "int" K) (K true) := ⟨wisi_int_int⟩
instance s_wisi_int_bool {z : Int} : Stp (Wisi (.int z) "bool" K) (K false) := ⟨wisi_int_bool⟩
instance s_wisi_int_str {z : Int} : Stp (Wisi (.int z) "str" K) (K false) := ⟨wisi_int_str⟩
instance s_wisi_str_tuple {z : Str} : Stp (Wisi (.str z) "tuple" K) (K false) := ⟨wisi_str_tuple⟩
instance s_wisi_str_list {z : Str} : Stp (Wisi (.str z) "list" K) (K false) := ⟨wisi_str_list⟩
instance s_wisi_str_int {z : Str} : Stp (Wisi (.str z) "int" K) (K false) := ⟨wisi_str_int⟩
instance s_wisi_str_bool {z : Str} : Stp (Wisi (.str z) "bool" K) (K false) := ⟨wisi_str_bool⟩
instance s_wisi_str_str {z : Str} : Stp (Wisi (.str z) "str" K) (K true) := ⟨wisi_str_str⟩
instance s_wisi_list_tuple  : Stp (Wisi (.list ds) "tuple" K) (K false) := ⟨wisi_list_tuple⟩
instance s_wisi_list_list  : Stp (Wisi (.list ds) "list" K) (K true) := ⟨wisi_list_list⟩
instance s_wisi_list_int  : Stp (Wisi (.list ds) "int" K) (K false) := ⟨wisi_list_int⟩
instance s_wisi_list_bool  : Stp (Wisi (.list ds) "bool" K) (K false) := ⟨wisi_list_bool⟩
instance s_wisi_list_str  : Stp (Wisi (.list ds) "str" K) (K false) := ⟨wisi_list_str⟩
instance s_wisi_tuple_tuple  : Stp (Wisi (.tuple ds) "tuple" K) (K true) := ⟨wisi_tuple_tuple⟩
instance s_wisi_tuple_list  : Stp (Wisi (.tuple ds) "list" K) (K false) := ⟨wisi_tuple_list⟩
instance s_wisi_tuple_int  : Stp (Wisi (.tuple ds) "int" K) (K false) := ⟨wisi_tuple_int⟩
instance s_wisi_tuple_bool  : Stp (Wisi (.tuple ds) "bool" K) (K false) := ⟨wisi_tuple_bool⟩
instance s_wisi_tuple_str  : Stp (Wisi (.tuple ds) "str" K) (K false) := ⟨wisi_tuple_str⟩
instance s_wv_add_ii  : Stp (Wv (addP (.int i) (.int j)) P) (P (.int (i + j))) := ⟨wv_add_ii⟩
instance s_wv_sub  : Stp (Wv (subP (.int i) (.int j)) P) (P (.int (i - j))) := ⟨wv_sub⟩
instance s_wv_lt  : Stp (Wv (ltP (.int i) (.int j)) P) (P (.bool (decide (i < j)))) := ⟨wv_lt⟩
instance s_wv_le  : Stp (Wv (leP (.int i) (.int j)) P) (P (.bool (decide (i ≤ j)))) := ⟨wv_le⟩
instance s_wv_gt  : Stp (Wv (gtP (.int i) (.int j)) P) (P (.bool (decide (j < i)))) := ⟨wv_gt⟩
instance s_wv_ge  : Stp (Wv (geP (.int i) (.int j)) P) (P (.bool (decide (j ≤ i)))) := ⟨wv_ge⟩
instance s_wv_eq_ss {s t : Str} : Stp (Wv (eqS (.str s) (.str t)) P) (P (.bool (decide (s = t)))) := ⟨wv_eq_ss⟩
instance s_wv_ne_ss {s t : Str} : Stp (Wv (neS (.str s) (.str t)) P) (P (.bool (!decide (s = t)))) := ⟨wv_ne_ss⟩
instance s_wv_eq_ii  : Stp (Wv (eqS (.int i) (.int j)) P) (P (.bool (decide (i = j)))) := ⟨wv_eq_ii⟩
instance s_wv_ne_ii  : Stp (Wv (neS (.int i) (.int j)) P) (P (.bool (!decide (i = j)))) := ⟨wv_ne_ii⟩
instance s_wv_is  : Stp (Wv (isP x .none) P) (P (.bool (isNoneP x))) := ⟨wv_is⟩
instance s_wv_isNot  : Stp (Wv (isNotP x .none) P) (P (.bool (!isNoneP x))) := ⟨wv_isNot⟩
instance s_wv_ix_t0 {a0 : PyData} : Stp (Wv (ixP (.tuple (a0 :: ds)) (.int 0)) P) (P a0) := ⟨wv_ix_t0⟩
instance s_wv_ix_t1 {a0 a1 : PyData} : Stp (Wv (ixP (.tuple (a0 :: a1 :: ds)) (.int 1)) P) (P a1) := ⟨wv_ix_t1⟩
instance s_wv_ix_t2 {a0 a1 a2 : PyData} : Stp (Wv (ixP (.tuple (a0 :: a1 :: a2 :: ds)) (.int 2)) P) (P a2) := ⟨wv_ix_t2⟩
instance s_wv_ix_t3 {a0 a1 a2 a3 : PyData} : Stp (Wv (ixP (.tuple (a0 :: a1 :: a2 :: a3 :: ds)) (.int 3)) P) (P a3) := ⟨wv_ix_t3⟩
instance s_wv_ix_t4 {a0 a1 a2 a3 a4 : PyData} : Stp (Wv (ixP (.tuple (a0 :: a1 :: a2 :: a3 :: a4 :: ds)) (.int 4)) P) (P a4) := ⟨wv_ix_t4⟩
instance s_wv_ix_t5 {a0 a1 a2 a3 a4 a5 : PyData} : Stp (Wv (ixP (.tuple (a0 :: a1 :: a2 :: a3 :: a4 :: a5 :: ds)) (.int 5)) P) (P a5) := ⟨wv_ix_t5⟩
instance s_wv_ix_l0 {a0 : PyData} : Stp (Wv (ixP (.list (a0 :: ds)) (.int 0)) P) (P a0) := ⟨wv_ix_l0⟩
instance s_wv_ix_l1 {a0 a1 : PyData} : Stp (Wv (ixP (.list (a0 :: a1 :: ds)) (.int 1)) P) (P a1) := ⟨wv_ix_l1⟩
instance s_wv_ix_l2 {a0 a1 a2 : PyData} : Stp (Wv (ixP (.list (a0 :: a1 :: a2 :: ds)) (.int 2)) P) (P a2) := ⟨wv_ix_l2⟩
instance s_wv_ix_l3 {a0 a1 a2 a3 : PyData} : Stp (Wv (ixP (.list (a0 :: a1 :: a2 :: a3 :: ds)) (.int 3)) P) (P a3) := ⟨wv_ix_l3⟩
instance s_wv_ix_l4 {a0 a1 a2 a3 a4 : PyData} : Stp (Wv (ixP (.list (a0 :: a1 :: a2 :: a3 :: a4 :: ds)) (.int 4)) P) (P a4) := ⟨wv_ix_l4⟩
instance s_wv_ix_l5 {a0 a1 a2 a3 a4 a5 : PyData} : Stp (Wv (ixP (.list (a0 :: a1 :: a2 :: a3 :: a4 :: a5 :: ds)) (.int 5)) P) (P a5) := ⟨wv_ix_l5⟩
instance s_wv_len_t  : Stp (Wv (lenP [.tuple ds]) P) (P (.int (ds.length : Nat))) := ⟨wv_len_t⟩
instance s_wv_len_l  : Stp (Wv (lenP [.list ds]) P) (P (.int (ds.length : Nat))) := ⟨wv_len_l⟩
instance s_wv_tuple_l  : Stp (Wv (tupleP [.list ds]) P) (P (.tuple ds)) := ⟨wv_tuple_l⟩
instance s_wv_tuple_t  : Stp (Wv (tupleP [.tuple ds]) P) (P (.tuple ds)) := ⟨wv_tuple_t⟩
instance s_wv_list_l  : Stp (Wv (listP [.list ds]) P) (P (.list ds)) := ⟨wv_list_l⟩
instance s_wv_list_t  : Stp (Wv (listP [.tuple ds]) P) (P (.list ds)) := ⟨wv_list_t⟩
instance s_wv_int_i  : Stp (Wv (intP [.int i]) P) (P (.int i)) := ⟨wv_int_i⟩
instance s_wv_int_b {b : Bool} : Stp (Wv (intP [.bool b]) P) (P (.int (if b = true then 1 else 0))) := ⟨wv_int_b⟩
instance s_wv_abs  : Stp (Wv (absP [.int i]) P) (P (.int (if i < 0 then -i else i))) := ⟨wv_abs⟩
instance s_wv_neg  : Stp (Wv (negP (.int i)) P) (P (.int (-i))) := ⟨wv_neg⟩
instance s_wvb_tru {b : Bool} {P : Bool → Prop} : Stp (Wv (truD (.bool b)) P) (P b) := ⟨wvb_tru⟩
instance s_wvb_truL {P : Bool → Prop} : Stp (Wv (truD (.list ds)) P) (P (!ds.isEmpty)) := ⟨wvb_truL⟩
instance s_wvb_truT {P : Bool → Prop} : Stp (Wv (truD (.tuple ds)) P) (P (!ds.isEmpty)) := ⟨wvb_truT⟩
instance s_wv_sl_t {lo hi : Option Int} : Stp (Wv (slP (.tuple ds) lo hi) P) (P (.tuple (cutD ds lo hi))) := ⟨wv_sl_t⟩
instance s_wv_sl_l {lo hi : Option Int} : Stp (Wv (slP (.list ds) lo hi) P) (P (.list (cutD ds lo hi))) := ⟨wv_sl_l⟩
end
instance (priority := low) s_wp2v {β γ : Type} {r : β × γ} {K : β → γ → Prop} : Stp (Wp2 r K) (K r.1 r.2) := ⟨id⟩
end Pd

namespace K06
open PySem L2 Evl Pd Qt
local macro_rules | `(tactic| walk_at "wp2") => `(tactic| first
  | ((with_reducible refine wlen ?_ ?_); focus exact rfl) | ((with_reducible refine wcap ?_ ?_); focus exact Nat.le_of_ble_eq_true rfl)
  | ((with_reducible refine wv_add_tt ?_ ?_); focus (first | omega | (simp only [List.length_cons, List.length_nil, List.length_append, List.length_map]; omega))) | ((with_reducible refine wv_add_ll ?_ ?_); focus (first | omega | (simp only [List.length_cons, List.length_nil, List.length_append, List.length_map]; omega))) | ((with_reducible refine wv_mod ?_ ?_); focus (first | omega | (simp only [List.length_cons, List.length_nil, List.length_append, List.length_map]; omega)))
  | ((with_reducible refine wif_false ?_ ?_); focus decide +kernel) | ((with_reducible refine wif_true ?_ ?_); focus decide +kernel))
local macro_rules | `(tactic| walk_at "wp") => `(tactic| repeat (first | (with_reducible refine Stp.h ?_) | (with_reducible refine ws_seq ?_) | (with_reducible refine ws_if ?_) | walk_at "wp2"))
local macro_rules | `(tactic| walk_at "wq") => `(tactic| repeat (first | (with_reducible refine Stp.h ?_) | walk_at "wp2" | (with_reducible refine ws_seq (ws_asg ?_)) | (with_reducible refine ws_seq (ws_asgO ?_)) | (with_reducible refine ws_seq (ws_asgG ?_)) | (with_reducible refine ws_seq (ws_drop ?_)) | (with_reducible refine ws_seq (ws_par ?_)) | (with_reducible refine ws_seq (wi_app ?_))))

/-! ### data of a bounded size -/
def Sz (m : Nat) : Nat → PyData → Prop
  | _, .none => True
  | _, .bool _ => True
  | _, .int _ => True
  | _, .str s => PyData.strOk s = true
  | n + 1, .tuple ds => ds.length ≤ m ∧ ∀ x ∈ ds, Sz m n x
  | n + 1, .list ds => ds.length ≤ m ∧ ∀ x ∈ ds, Sz m n x
  | 0, .tuple _ => False
  | 0, .list _ => False
  | _, .dict _ => False
theorem Sz.tup {m n : Nat} {ds : List PyData} (h : Sz m n (.tuple ds)) : ∃ k, n = k + 1 ∧ ds.length ≤ m ∧ ∀ x ∈ ds, Sz m k x := by
  cases n with
  | zero => rw [Sz] at h; exact h.elim
  | succ k => rw [Sz] at h; exact ⟨k, rfl, h⟩
theorem Sz.lst {m n : Nat} {ds : List PyData} (h : Sz m n (.list ds)) : ∃ k, n = k + 1 ∧ ds.length ≤ m ∧ ∀ x ∈ ds, Sz m k x := by
  cases n with
  | zero => rw [Sz] at h; exact h.elim
  | succ k => rw [Sz] at h; exact ⟨k, rfl, h⟩
theorem sz_tup {m n : Nat} {ds : List PyData} (h1 : ds.length ≤ m) (h2 : ∀ x ∈ ds, Sz m n x) : Sz m (n + 1) (.tuple ds) := by rw [Sz]; exact ⟨h1, h2⟩
theorem sz_lst {m n : Nat} {ds : List PyData} (h1 : ds.length ≤ m) (h2 : ∀ x ∈ ds, Sz m n x) : Sz m (n + 1) (.list ds) := by rw [Sz]; exact ⟨h1, h2⟩
theorem sz_int {m n : Nat} {i : Int} : Sz m n (.int i) := by cases n <;> rw [Sz] <;> trivial
theorem sz_none {m n : Nat} : Sz m n .none := by cases n <;> rw [Sz] <;> trivial
theorem sz_bool {m n : Nat} {b : Bool} : Sz m n (.bool b) := by cases n <;> rw [Sz] <;> trivial
theorem sz_str {m n : Nat} {s : Str} (h : PyData.strOk s = true) : Sz m n (.str s) := by cases n <;> rw [Sz] <;> exact h
theorem Sz.mono {m m' : Nat} (hm : m ≤ m') : ∀ {n n' : Nat}, n ≤ n' → ∀ {d : PyData}, Sz m n d → Sz m' n' d := by
  intro n
  induction n with
  | zero =>
    intro n' _ d h
    cases d with
    | none => exact sz_none
    | bool => exact sz_bool
    | int => exact sz_int
    | str s => rw [Sz] at h; exact sz_str h
    | list ds => rw [Sz] at h; exact h.elim
    | tuple ds => rw [Sz] at h; exact h.elim
    | dict ds => rw [Sz] at h; exact h.elim
  | succ n ih =>
    intro n' hn d h
    obtain ⟨k, rfl⟩ : ∃ k, n' = k + 1 := ⟨n' - 1, by omega⟩
    cases d with
    | none => exact sz_none
    | bool => exact sz_bool
    | int => exact sz_int
    | str s => rw [Sz] at h; exact sz_str h
    | list ds => rw [Sz] at h; exact sz_lst (by omega) fun x hx => ih (by omega) (h.2 x hx)
    | tuple ds => rw [Sz] at h; exact sz_tup (by omega) fun x hx => ih (by omega) (h.2 x hx)
    | dict ds => rw [Sz] at h; exact h.elim
theorem Sz.nd {m n : Nat} {d : PyData} (h : Sz m n d) : noDict d = true := by
  cases d with
  | dict ds => cases n <;> rw [Sz] at h <;> exact h.elim
  | _ => rfl
theorem Sz.lay {m : Nat} : ∀ {n : Nat} {d : PyData}, Sz m n d → Lay n d := by
  intro n
  induction n with
  | zero =>
    intro d h
    cases d with
    | none => exact ⟨rfl, Nat.zero_le _⟩
    | bool => exact Lay.bool
    | int => exact Lay.int
    | str s => rw [Sz] at h; exact Lay.str h
    | list ds => rw [Sz] at h; exact h.elim
    | tuple ds => rw [Sz] at h; exact h.elim
    | dict ds => rw [Sz] at h; exact h.elim
  | succ n ih =>
    intro d h
    cases d with
    | none => exact ⟨rfl, Nat.zero_le _⟩
    | bool => exact Lay.bool.mono (by omega)
    | int => exact Lay.int.mono (by omega)
    | str s => rw [Sz] at h; exact (Lay.str h).mono (by omega)
    | list ds => rw [Sz] at h; exact Lay.lst fun x hx => ih (h.2 x hx)
    | tuple ds => rw [Sz] at h; exact Lay.tup fun x hx => ih (h.2 x hx)
    | dict ds => rw [Sz] at h; exact h.elim
theorem take_wv {m : Nat} {bd : List PyData} (hb : Box m bd) (hm : m < 100000) {many : Int} (h1 : 0 < many) (h2 : many < 1000000) {P : PyData × List PyData → Prop}
    (k : ∀ (d : Nat) (bd' : List PyData), Box (m + 1) bd' → (d : Int) < many → P (N d, bd')) : Wv (F__law_take bd [.int many]) P := by
  obtain ⟨d, bd', e, hb', d0, d1⟩ := take_ok hb hm h1 h2
  obtain ⟨j, rfl⟩ := Int.eq_ofNat_of_zero_le d0
  exact wv e (k j bd' hb' d1)
theorem pick_wv {m : Nat} {bd : List PyData} (hb : Box m bd) (hm : m < 100000) {ds : List PyData} (h1 : 0 < ds.length) (h2 : ds.length < 1000000) {P : PyData × List PyData → Prop}
    (k : ∀ (d : PyData) (bd' : List PyData), Box (m + 1) bd' → d ∈ ds → P (d, bd')) : Wv (F__law_pick bd [.list ds]) P := by
  obtain ⟨d, bd', e, hb', hd⟩ := pick_ok hb hm ds h1 h2
  exact wv e (k d bd' hb' hd)
theorem eqv_nil (ds : List PyData) : (PyData.tuple ds).eqv (.tuple []) = ds.isEmpty := by
  cases ds with
  | nil => rfl
  | cons d ds => simp [PyData.eqv, PyData.eqvAll]
theorem shaped_nil : SeqAt.shaped (.tuple []) = true := by decide +kernel
theorem ne_nil {n : Nat} {ds : List PyData} (h : Lay n (.tuple ds)) (hn : n ≤ 64) : neS (.tuple ds) (.tuple []) = some (.bool (!ds.isEmpty)) := by
  rw [neS_sh (h.shaped hn) shaped_nil (.inl rfl), eqv_nil]
theorem eq_nil {n : Nat} {ds : List PyData} (h : Lay n (.tuple ds)) (hn : n ≤ 64) : eqS (.tuple ds) (.tuple []) = some (.bool ds.isEmpty) := by
  rw [eqS_sh (h.shaped hn) shaped_nil (.inl rfl), eqv_nil]
theorem cut_lo (ds : List PyData) {k : Nat} (h : k ≤ ds.length) : cutD ds (some (k : Int)) none = ds.drop k := cut_drop ds k h
theorem str_sz {m n : Nat} : Sz m n (.str "op") ∧ Sz m n (.str "load") ∧ Sz m n (.str "store") ∧ Sz m n (.str "fence") ∧ Sz m n (.str "fork") ∧ Sz m n (.str "loop") ∧ Sz m n (.str "row") ∧ Sz m n (.str "1") :=
  ⟨sz_str (by decide +kernel), sz_str (by decide +kernel), sz_str (by decide +kernel), sz_str (by decide +kernel), sz_str (by decide +kernel), sz_str (by decide +kernel), sz_str (by decide +kernel), sz_str (by decide +kernel)⟩
theorem bent_ok {L : Nat} (hL : L ≤ 1000) : ∀ (k dep n : Nat) (v : PyData) (bd : List PyData) (m : Nat), dep < k → Sz L n v → n ≤ 60 → Box m bd → m + 2 * dep + 3 < 100000 →
    Wv (F__law_bent k bd [v, N dep]) fun r => Box (m + 2 * dep + 2) r.2 ∧ Sz (L + 1) n r.1 := by
  intro k
  induction k with
  | zero => intro dep n v bd m h; omega
  | succ k ih =>
    intro dep n v bd m hk hv hn hb hm
    rw [F__law_bent]
    refine denB_of ?_
    show Ws (den__law_bent _ _ _ [.own true bd, .fro v, .fro (N dep), .no]) _
    unfold den__law_bent
    refine ws_cut (fun ρ => ∃ bd' s3, ρ = [.own true bd', .fro v, .fro (N dep), s3] ∧ Box (m + 1) bd') ?_ ?_
    · cases v with
      | tuple ds =>
        have hlay := hv.lay
        obtain ⟨n', rfl, hl, hall⟩ := hv.tup
        walk_at "wp"
        refine wif_dec (fun h0 => ?_) (fun h0 => ?_)
        · walk_at "wp"
          refine wv (ne_nil hlay (by omega)) (wbool ?_)
          cases hds : ds with
          | nil => refine wif_false rfl ?_; walk_at "wp"; exact ⟨bd, .no, rfl, hb.mono (by omega)⟩
          | cons d0 dr =>
            refine wif_true rfl ?_
            walk_at "wp"
            refine take_wv (many := 6) hb (by omega) (by decide) (by decide) fun t bd1 hb1 ht => ?_
            walk_at "wp"
            refine wif_dec (fun h1 => ?_) (fun h1 => ?_)
            · walk_at "wp"
              refine take_wv hb1 (by omega) (by rw [List.length_cons]; omega) (by rw [← hds]; omega) fun at_ bd2 hb2 hat => ?_
              have hat' : at_ < (d0 :: dr).length := by omega
              walk_at "wp"
              obtain ⟨x, hx⟩ : ∃ x, (d0 :: dr)[at_]? = some x := ⟨_, List.getElem?_eq_getElem hat'⟩
              refine wv (ix_nat hx) ?_
              walk_at "wp"
              have e1 : ((dep : Int) - 1) = ((dep - 1 : Nat) : Int) := by omega
              rw [e1]
              have hx' : x ∈ ds := by rw [hds]; exact List.mem_of_getElem? hx
              obtain ⟨r, er, hb3⟩ := wv_of (ih (dep - 1) n' x bd2 (m + 2) (by omega) (hall x hx') (by omega) hb2 (by omega))
              refine wv er ?_
              walk_at "wp"
              have c4 : cutD (d0 :: dr) none (some (at_ : Int)) = (d0 :: dr).take at_ := cut_take _ _
              have c5 : cutD (d0 :: dr) (some ((at_ : Int) + 1)) none = (d0 :: dr).drop (at_ + 1) := cut_drop _ (at_ + 1) (by omega)
              rw [c4]
              have l4 : ((d0 :: dr).take at_).length = at_ := by rw [List.length_take]; omega
              have l5 : (d0 :: dr).length ≤ L := by rw [← hds]; exact hl
              refine wv_add_tt (by rw [l4, List.length_singleton]; omega) ?_
              walk_at "wp"
              rw [c5]
              have l6 : ((d0 :: dr).drop (at_ + 1)).length = (d0 :: dr).length - (at_ + 1) := List.length_drop ..
              refine wv_add_tt (by rw [List.length_append, l4, l6, List.length_singleton]; omega) ?_
              walk_at "wp"
              have b3 := hb3.1
              refine ⟨_, rfl, hb3.1.mono (by omega), ?_⟩
              have all' : ∀ y ∈ d0 :: dr, Sz (L + 1) n' y := fun y hy => (hall y (by rw [hds]; exact hy)).mono (by omega) (Nat.le_refl _)
              refine sz_tup (by rw [List.length_append, List.length_append, l4, l6, List.length_singleton]; omega) fun y hy => ?_
              rcases List.mem_append.mp hy with hy | hy
              · rcases List.mem_append.mp hy with hy | hy
                · exact all' y (List.mem_of_mem_take hy)
                · rw [List.mem_singleton.mp hy]; exact hb3.2
              · exact all' y (List.mem_of_mem_drop hy)
            · walk_at "wp"; exact ⟨bd1, .no, rfl, hb1⟩
        · walk_at "wp"; exact ⟨bd, .no, rfl, hb.mono (by omega)⟩
      | dict ds => cases hv.nd
      | _ => walk_at "wp"; refine wif_of (fun _ => ?_) (fun _ => ?_) <;> (walk_at "wp"; exact ⟨bd, .no, rfl, hb.mono (by omega)⟩)
    · rintro _ ⟨bd', s3, rfl, hb'⟩
      cases v with
      | tuple ds =>
        obtain ⟨n', rfl, hl, hall⟩ := hv.tup
        have c1 : cutD ds none (some 1) = ds.take 1 := cut_take ds 1
        have l1 : (ds.take 1).length ≤ 1 := by rw [List.length_take]; omega
        walk_at "wp"
        rw [c1]
        refine wv_add_tt (by omega) ?_
        walk_at "wp"
        refine pick_wv hb' (by omega) ?_ ?_ ?_
        · simp
        · simp
        intro d bd2 hb2 hd
        walk_at "wp"
        refine ⟨_, rfl, hb2.mono (by omega), ?_⟩
        have all' : ∀ x ∈ ds, Sz (L + 1) n' x := fun x hx => (hall x hx).mono (by omega) (Nat.le_refl _)
        have c2 : ∀ x ∈ cutD ds (some 1) none, x ∈ ds := fun x hx => List.mem_of_mem_drop (List.mem_of_mem_take hx)
        have c3 : (cutD ds (some 1) none).length ≤ ds.length := by
          unfold cutD
          rw [List.length_take, List.length_drop]
          omega
        simp only [List.mem_cons, List.not_mem_nil, or_false] at hd
        rcases hd with rfl | rfl | rfl | rfl | rfl | rfl
        · exact sz_lst (by omega) all'
        · refine sz_tup (by rw [List.length_append]; omega) fun x hx => ?_
          rcases List.mem_append.mp hx with hx | hx
          · exact all' x hx
          · exact all' x (List.mem_of_mem_take hx)
        · exact sz_tup (by omega) fun x hx => all' x (c2 x hx)
        · exact sz_tup (by rw [List.length_reverse]; omega) fun x hx => all' x (List.mem_reverse.mp hx)
        · exact sz_none
        · refine sz_tup (by rw [List.length_append, List.length_singleton]; omega) fun x hx => ?_
          rcases List.mem_append.mp hx with hx | hx
          · exact all' x hx
          · rw [List.mem_singleton.mp hx]; exact sz_int
      | dict ds => cases hv.nd
      | str s =>
        walk_at "wp"
        refine pick_wv hb' (by omega) ?_ ?_ ?_
        · simp
        · simp
        intro d bd2 hb2 hd
        walk_at "wp"
        refine ⟨_, rfl, hb2.mono (by omega), ?_⟩
        obtain ⟨a1, a2, a3, a4, a5, a6, a7, a8⟩ := str_sz (m := L + 1) (n := n)
        simp only [List.mem_cons, List.not_mem_nil, or_false] at hd
        rcases hd with rfl | rfl | rfl | rfl | rfl | rfl | rfl | rfl <;> first | assumption | exact sz_none
      | _ =>
        walk_at "wp"
        refine pick_wv hb' (by omega) ?_ ?_ ?_
        · simp
        · simp
        intro d bd2 hb2 hd
        walk_at "wp"
        refine ⟨_, rfl, hb2.mono (by omega), ?_⟩
        obtain ⟨a1, a2, a3, a4, a5, a6, a7, a8⟩ := str_sz (m := L + 1) (n := n)
        simp only [List.mem_cons, List.not_mem_nil, or_false] at hd
        rcases hd with rfl | rfl | rfl | rfl | rfl | rfl | rfl | rfl | rfl | rfl <;> first | assumption | exact sz_none | exact sz_int | exact sz_bool
end K06

namespace K06
open PySem L2 Evl Pd Qt
local macro_rules | `(tactic| walk_at "wp2") => `(tactic| first
  | ((with_reducible refine wlen ?_ ?_); focus exact rfl) | ((with_reducible refine wcap ?_ ?_); focus exact Nat.le_of_ble_eq_true rfl)
  | ((with_reducible refine wv_add_tt ?_ ?_); focus (first | omega | (simp only [List.length_cons, List.length_nil, List.length_append, List.length_map]; omega))) | ((with_reducible refine wv_add_ll ?_ ?_); focus (first | omega | (simp only [List.length_cons, List.length_nil, List.length_append, List.length_map]; omega))) | ((with_reducible refine wv_mod ?_ ?_); focus (first | omega | (simp only [List.length_cons, List.length_nil, List.length_append, List.length_map]; omega)))
  | ((with_reducible refine wif_false ?_ ?_); focus decide +kernel) | ((with_reducible refine wif_true ?_ ?_); focus decide +kernel))
local macro_rules | `(tactic| walk_at "wp") => `(tactic| repeat (first | (with_reducible refine Stp.h ?_) | (with_reducible refine ws_seq ?_) | (with_reducible refine ws_if ?_) | walk_at "wp2"))
local macro_rules | `(tactic| walk_at "wq") => `(tactic| repeat (first | (with_reducible refine Stp.h ?_) | walk_at "wp2" | (with_reducible refine ws_seq (ws_asg ?_)) | (with_reducible refine ws_seq (ws_asgO ?_)) | (with_reducible refine ws_seq (ws_asgG ?_)) | (with_reducible refine ws_seq (ws_drop ?_)) | (with_reducible refine ws_seq (ws_par ?_)) | (with_reducible refine ws_seq (wi_app ?_))))

/-! ### what is let by, of any data -/
def tupN (n : Int) : PyData → Bool
  | .tuple ds => decide ((ds.length : Int) = n)
  | _ => false
def allB (n : Int) : PyData → Bool
  | .tuple ds => ds.all (belowB n)
  | _ => false
theorem tuple_of_eq {d : PyData} (h : noDict d = true) (n : Int) : F_is_tuple_of [d, .int n] = some (.bool (tupN n d)) := by
  cases d with
  | tuple ds => exact F_is_tuple_of_tup ds n
  | dict _ => cases h
  | _ => rfl
theorem law_below_eq {d : PyData} (h : noDict d = true) (n : Int) : F__law_is_below [d, .int n] = some (.bool (belowB n d)) := by
  refine denQ_of ?_
  show Ws (den__law_is_below [.fro d, .fro (.int n)]) _
  unfold den__law_is_below
  cases d with
  | int i =>
    walk_at "wp"
    refine wif_dec (fun h0 => ?_) (fun h0 => ?_) <;> walk_at "wp"
    · show some _ = some _
      rw [belowB, decide_eq_true h0, Bool.true_and]
    · show some _ = some _
      rw [belowB, decide_eq_false h0, Bool.false_and]
  | dict _ => cases h
  | _ => walk_at "wp"; rfl
theorem all_map' {β : Type} (f : β → Bool) (l : List β) : (l.filter fun x => !f x).isEmpty = l.all f := by
  induction l with
  | nil => rfl
  | cons x l ih =>
    rw [List.filter_cons, List.all_cons]
    cases hx : f x with
    | true => simpa using ih
    | false => rfl
theorem eqv_lnil (ds : List PyData) : (PyData.list ds).eqv (.list []) = ds.isEmpty := by
  cases ds with
  | nil => rfl
  | cons d ds => simp [PyData.eqv, PyData.eqvAll]
theorem shaped_lnil : SeqAt.shaped (.list []) = true := by decide +kernel
theorem eq_lnil {n : Nat} {ds : List PyData} (h : Lay n (.list ds)) (hn : n ≤ 64) : eqS (.list ds) (.list []) = some (.bool ds.isEmpty) := by
  rw [eqS_sh (h.shaped hn) shaped_lnil (.inl rfl), eqv_lnil]
theorem ne_lnil {n : Nat} {ds : List PyData} (h : Lay n (.list ds)) (hn : n ≤ 64) : neS (.list ds) (.list []) = some (.bool (!ds.isEmpty)) := by
  rw [neS_sh (h.shaped hn) shaped_lnil (.inl rfl), eqv_lnil]
theorem law_are_below_eq {L k : Nat} (hL : L ≤ 1001) {d : PyData} (h : Sz L k d) (hk : k ≤ 60) (m n : Int) : F__law_are_below [d, .int m, .int n] = some (.bool (tupN m d && allB n d)) := by
  refine denQ_of ?_
  show Ws (den__law_are_below _ [.fro d, .fro (.int m), .fro (.int n), .no]) _
  unfold den__law_are_below
  cases d with
  | tuple ds =>
    obtain ⟨k', rfl, hl, hall⟩ := h.tup
    walk_at "wp"
    refine wif_dec (fun h0 => ?_) (fun h0 => ?_)
    · walk_at "wp"
      refine wl_genD (fun x => !belowB n x) id (by omega) (fun x hx => ?_) ?_
      · walk_at "wp"
        refine wv (law_below_eq (hall x hx).nd n) ?_
        walk_at "wp"
        refine ⟨rfl, wif_of (fun hb => ?_) (fun hb => ?_)⟩ <;> walk_at "wp"
        · exact ⟨rfl, rfl⟩
        · exact rfl
      · walk_at "wp"
        rw [List.map_id]
        have ly : Lay (k' + 1) (.list (ds.filter fun x => !belowB n x)) := Lay.lst fun x hx => (hall x (List.mem_filter.mp hx).1).lay
        refine wv (eq_lnil ly (by omega)) ?_
        walk_at "wp"
        rw [all_map']
        show some _ = some _
        rw [tupN, decide_eq_true h0, Bool.true_and, allB]
    · walk_at "wp"
      show some _ = some _
      rw [tupN, decide_eq_false h0, Bool.false_and]
  | dict _ => cases h.nd
  | _ => walk_at "wp"; rfl
theorem are_below_eq {L k : Nat} {ds : List PyData} (h : Sz L k (.tuple ds)) (n : Int) : F_are_below [.tuple ds, .int n] = some (.bool (allB n (.tuple ds))) := by
  obtain ⟨k', rfl, hl, hall⟩ := h.tup
  show (if ds.all noDict = true then _ else _) = _
  rw [if_pos (List.all_eq_true.mpr fun x hx => (hall x hx).nd)]
  rfl
theorem row_of_values_eq {L k : Nat} {d : PyData} (h : Sz L k d) (m n : Int) : F_is_row_of_values [d, .int m, .int n] = some (.bool (tupN m d && allB n d)) := by
  refine denQ_of ?_
  show Ws (den_is_row_of_values _ _ [.fro d, .fro (.int m), .fro (.int n)]) _
  unfold den_is_row_of_values
  walk_at "wp"
  refine wv (tuple_of_eq h.nd m) ?_
  walk_at "wp"
  refine wif_of (fun h0 => ?_) (fun h0 => ?_)
  · cases d with
    | tuple ds =>
      walk_at "wp"
      refine wv (are_below_eq h n) ?_
      walk_at "wp"
      rw [h0, Bool.true_and]
      rfl
    | _ => cases h0
  · walk_at "wp"
    rw [h0, Bool.false_and]
    rfl
def c0 : PyData → Bool
  | .int i => decide (i = 2) || decide (i = 3)
  | _ => false
theorem is_size_eq {d : PyData} (h : noDict d = true) : F_is_size [d] = some (.bool (c0 d)) := by
  refine denQ_of ?_
  show Ws (den_is_size _ [.fro d]) _
  unfold den_is_size
  walk_at "wp"
  refine wv (F_is_integer_eq d h) ?_
  walk_at "wp"
  cases d with
  | int i =>
    refine wif_true rfl ?_
    walk_at "wp"
    refine wv (y := .bool (c0 (.int i))) ?_ ?_
    · have e2 : ((2 : Int) == i) = decide (i = 2) := by by_cases h : i = 2 <;> simp [h] <;> omega
      have e3 : ((3 : Int) == i) = decide (i = 3) := by by_cases h : i = 3 <;> simp [h] <;> omega
      simp [inP, flatD, PyData.eqv, c0, e2, e3]
    · walk_at "wp"
      rfl
  | dict _ => cases h
  | _ => refine wif_false rfl ?_; walk_at "wp"; rfl
theorem is_table_eq {L k : Nat} {d : PyData} (h : Sz L k d) {s : Nat} (hs : s = 2 ∨ s = 3) : F_is_table [N s, d] = some (.bool (tupN (s * s : Nat) d && allB (s : Nat) d)) := by
  refine denQ_of ?_
  show Ws (den_is_table _ [.fro (N s), .fro d]) _
  unfold den_is_table
  have m : mulP (N s) (N s) = some (N (s * s)) := by rcases hs with z | z <;> rw [z] <;> rfl
  walk_at "wp"
  refine wv m ?_
  walk_at "wp"
  refine wv (row_of_values_eq h _ _) ?_
  walk_at "wp"
  rfl
def c3 (s : Nat) : PyData → Bool
  | .tuple ds => decide (ds.length ≤ 4) && ds.all fun d => tupN (s * s : Nat) d && allB (s : Nat) d
  | _ => false
theorem are_tables_eq {L k : Nat} (hL : L ≤ 1001) {d : PyData} (h : Sz L k d) {s : Nat} (hs : s = 2 ∨ s = 3) : F_are_tables [N s, d] = some (.bool (c3 s d)) := by
  refine denQ_of ?_
  show Ws (den_are_tables _ [.fro (N s), .fro d, .no]) _
  unfold den_are_tables
  cases d with
  | tuple ds =>
    obtain ⟨k', rfl, hl, hall⟩ := h.tup
    walk_at "wp"
    refine wif_dec (fun h0 => ?_) (fun h0 => ?_)
    · walk_at "wp"
      have : ¬ ds.length ≤ 4 := by omega
      show some _ = some _
      rw [c3, decide_eq_false this, Bool.false_and]
    · walk_at "wp"
      refine wl_mapD (fun x => .bool (tupN (s * s : Nat) x && allB (s : Nat) x)) (by omega) (fun x hx => ?_) ?_
      · walk_at "wp"
        refine wv (is_table_eq (hall x hx) hs) ?_
        walk_at "wp"
        exact ⟨rfl, rfl⟩
      · walk_at "wp"
        refine wv (y := .bool (ds.all fun d => tupN (s * s : Nat) d && allB (s : Nat) d)) ?_ ?_
        · show (boolsD _).map _ = _
          rw [bools_map, Option.map_some, all_map]
        · walk_at "wp"
          have : ds.length ≤ 4 := by omega
          show some _ = some _
          rw [c3, decide_eq_true this, Bool.true_and]
  | dict _ => cases h.nd
  | _ => walk_at "wp"; rfl
end K06

namespace K06
open PySem L2 Evl Pd Qt
local macro_rules | `(tactic| walk_at "wp2") => `(tactic| first
  | ((with_reducible refine wlen ?_ ?_); focus exact rfl) | ((with_reducible refine wcap ?_ ?_); focus exact Nat.le_of_ble_eq_true rfl)
  | ((with_reducible refine wv_add_tt ?_ ?_); focus (first | omega | (simp only [List.length_cons, List.length_nil, List.length_append, List.length_map]; omega))) | ((with_reducible refine wv_add_ll ?_ ?_); focus (first | omega | (simp only [List.length_cons, List.length_nil, List.length_append, List.length_map]; omega))) | ((with_reducible refine wv_mod ?_ ?_); focus (first | omega | (simp only [List.length_cons, List.length_nil, List.length_append, List.length_map]; omega)))
  | ((with_reducible refine wif_false ?_ ?_); focus decide +kernel) | ((with_reducible refine wif_true ?_ ?_); focus decide +kernel))
local macro_rules | `(tactic| walk_at "wp") => `(tactic| repeat (first | (with_reducible refine Stp.h ?_) | (with_reducible refine ws_seq ?_) | (with_reducible refine ws_if ?_) | walk_at "wp2"))
local macro_rules | `(tactic| walk_at "wq") => `(tactic| repeat (first | (with_reducible refine Stp.h ?_) | walk_at "wp2" | (with_reducible refine ws_seq (ws_asg ?_)) | (with_reducible refine ws_seq (ws_asgO ?_)) | (with_reducible refine ws_seq (ws_asgG ?_)) | (with_reducible refine ws_seq (ws_drop ?_)) | (with_reducible refine ws_seq (ws_par ?_)) | (with_reducible refine ws_seq (wi_app ?_))))

/-! ### frames of any form -/
def is0 : PyData → Bool
  | .int i => decide (i = 0)
  | _ => false
def c1 (b : PyData) : Bool := belowB 5 b && !is0 b
def c2 (s : Nat) (c : PyData) : Bool := belowB (s + 1 : Nat) c && (match c with | .int i => decide (i = 0) || decide (i = s) | _ => false)
def sizeOf : PyData → Nat
  | .int i => i.toNat
  | _ => 0
def dueF5 (a b c d e : PyData) : Option Int :=
  if c0 a = false then some 0 else if c1 b = false then some 1 else if c2 (sizeOf a) c = false then some 2 else if c3 (sizeOf a) d = false then some 3 else if belowB 4 e = false then some 4 else none
def dueF : PyData → Option Int
  | .tuple [a, b, c, d, e] => dueF5 a b c d e
  | _ => some (-1)
def dueR (v : PyData) : Option Int → Rs
  | none => .ok v
  | some i => .er 0 (.int i)
def dueP : Option Int → PyData
  | none => .none
  | some i => .int i
theorem five {ds : List PyData} (h : (ds.length : Int) = 5) : ∃ a b c d e, ds = [a, b, c, d, e] := by
  match ds, h with
  | [a, b, c, d, e], _ => exact ⟨a, b, c, d, e, rfl⟩
  | [], h => simp at h
  | [_], h => simp at h
  | [_, _], h => simp at h
  | [_, _, _], h => simp at h
  | [_, _, _, _], h => simp at h
  | _ :: _ :: _ :: _ :: _ :: _ :: r, h => simp only [List.length_cons] at h; omega
theorem dueF_five {ds : List PyData} (h : ¬ (ds.length : Int) = 5) : dueF (.tuple ds) = some (-1) := by
  match ds, h with
  | [a, b, c, d, e], h => exact absurd rfl h
  | [], _ => rfl
  | [_], _ => rfl
  | [_, _], _ => rfl
  | [_, _, _], _ => rfl
  | [_, _, _, _], _ => rfl
  | _ :: _ :: _ :: _ :: _ :: _ :: r, _ => rfl
theorem c0_int {a : PyData} (h : c0 a = true) : ∃ s : Nat, a = N s ∧ (s = 2 ∨ s = 3) := by
  cases a with
  | int i =>
    have h' : (decide (i = 2) || decide (i = 3)) = true := h
    rw [Bool.or_eq_true] at h'
    rcases h' with z | z
    · exact ⟨2, by rw [of_decide_eq_true z]; rfl, .inl rfl⟩
    · exact ⟨3, by rw [of_decide_eq_true z]; rfl, .inr rfl⟩
  | _ => cases h
theorem eq0 {n : Nat} {d : PyData} (h : Lay n d) (hn : n ≤ 64) : eqS d (.int 0) = some (.bool (d.eqv (.int 0))) := eqS_sh (h.shaped hn) (Lay.int.shaped (by decide)) (.inr rfl)
theorem below_int {n : Int} {d : PyData} (h : belowB n d = true) : ∃ i : Int, d = .int i ∧ 0 ≤ i ∧ i < n := by
  cases d with
  | int i =>
    have h' : (decide (0 ≤ i) && decide (i < n)) = true := h
    rw [Bool.and_eq_true] at h'
    exact ⟨i, rfl, of_decide_eq_true h'.1, of_decide_eq_true h'.2⟩
  | _ => cases h
theorem dec_beq (i j : Int) : (i == j) = decide (j = i) := by
  by_cases h : j = i
  · rw [decide_eq_true h]; exact beq_iff_eq.mpr h.symm
  · rw [decide_eq_false h]; exact beq_eq_false_iff_ne.mpr fun z => h z.symm
theorem nin2 (i j k : Int) : notInP (.int i) (.tuple [.int j, .int k]) = some (.bool (!(decide (i = j) || decide (i = k)))) := by
  simp [notInP, flatD, PyData.eqv, dec_beq]
theorem nin2L (i j k : Int) : notInP (.int i) (.list [.int j, .int k]) = some (.bool (!(decide (i = j) || decide (i = k)))) := by
  simp [notInP, SeqAt.shaped, PyData.canLay0, PyData.canLayAll0, PyData.depth, PyData.depthAll, PyData.eqv, dec_beq]
theorem due0 {a b c d e : PyData} (h : c0 a = false) : dueF (.tuple [a, b, c, d, e]) = some 0 := by
  show dueF5 _ _ _ _ _ = _; unfold dueF5; rw [if_pos h]
theorem due1 {s : Nat} (hs : s = 2 ∨ s = 3) {b c d e : PyData} (h : c1 b = false) : dueF (.tuple [N s, b, c, d, e]) = some 1 := by
  have h0 : c0 (N s) = true := by rcases hs with rfl | rfl <;> rfl
  show dueF5 _ _ _ _ _ = _; unfold dueF5; rw [if_neg (by rw [h0]; decide), if_pos h]
theorem due2 {s : Nat} (hs : s = 2 ∨ s = 3) {b c d e : PyData} (h1 : c1 b = true) (h : c2 s c = false) : dueF (.tuple [N s, b, c, d, e]) = some 2 := by
  have h0 : c0 (N s) = true := by rcases hs with rfl | rfl <;> rfl
  show dueF5 _ _ _ _ _ = _; unfold dueF5; rw [if_neg (by rw [h0]; decide), if_neg (by rw [h1]; decide)]
  exact if_pos h
theorem due3 {s : Nat} (hs : s = 2 ∨ s = 3) {b c d e : PyData} (h1 : c1 b = true) (h2 : c2 s c = true) (h : c3 s d = false) : dueF (.tuple [N s, b, c, d, e]) = some 3 := by
  have h0 : c0 (N s) = true := by rcases hs with rfl | rfl <;> rfl
  show dueF5 _ _ _ _ _ = _; unfold dueF5; rw [if_neg (by rw [h0]; decide), if_neg (by rw [h1]; decide)]
  exact (if_neg (by show ¬ c2 s c = false; rw [h2]; decide)).trans (if_pos h)
theorem due4 {s : Nat} (hs : s = 2 ∨ s = 3) {b c d e : PyData} (h1 : c1 b = true) (h2 : c2 s c = true) (h3 : c3 s d = true) : dueF (.tuple [N s, b, c, d, e]) = if belowB 4 e = false then some 4 else none := by
  have h0 : c0 (N s) = true := by rcases hs with rfl | rfl <;> rfl
  show dueF5 _ _ _ _ _ = _; unfold dueF5; rw [if_neg (by rw [h0]; decide), if_neg (by rw [h1]; decide)]
  exact (if_neg (by show ¬ c2 s c = false; rw [h2]; decide)).trans (if_neg (by show ¬ c3 s d = false; rw [h3]; decide))
theorem c1_ff {b : PyData} (h : belowB 5 b = false) : c1 b = false := by rw [c1, h, Bool.false_and]
theorem c1_0 {i : Int} (h : i = 0) : c1 (.int i) = false := by rw [c1, is0, decide_eq_true h, Bool.not_true, Bool.and_false]
theorem c1_t {i : Int} (h : belowB 5 (.int i) = true) (h0 : ¬ i = 0) : c1 (.int i) = true := by rw [c1, h, is0, decide_eq_false h0]; rfl
theorem c2_ff {s : Nat} {c : PyData} (h : belowB ((s : Int) + 1) c = false) : c2 s c = false := by
  unfold c2; rw [show (((s + 1 : Nat)) : Int) = (s : Int) + 1 from rfl, h, Bool.false_and]
theorem c2_i {s : Nat} {i : Int} (h : belowB ((s : Int) + 1) (.int i) = true) : c2 s (.int i) = (decide (i = 0) || decide (i = s)) := by
  rw [c2, show (((s + 1 : Nat)) : Int) = (s : Int) + 1 from rfl, h, Bool.true_and]
theorem need_frame_any {L n : Nat} (hL : L ≤ 1001) {v : PyData} (h : Sz L n v) (hn : n ≤ 60) : F_need_frame [v] = some (dueR v (dueF v)) := by
  refine denE_of ?_
  show Ws (den_need_frame _ _ _ _ [.fro v, .no, .no, .no, .no, .no]) _
  unfold den_need_frame
  walk_at "wp"
  refine wv (tuple_of_eq h.nd 5) ?_
  walk_at "wp"
  cases v with
  | tuple ds =>
    refine wif_dec (fun h5 => ?_) (fun h5 => ?_)
    · obtain ⟨a, b, c, d, e, rfl⟩ := five h5
      obtain ⟨k, rfl, _, hall⟩ := h.tup
      have ha := hall a (by simp); have hb := hall b (by simp); have hc := hall c (by simp); have hd := hall d (by simp); have he := hall e (by simp)
      walk_at "wp"
      refine wv (is_size_eq ha.nd) ?_
      walk_at "wp"
      refine wif_of (fun h0 => ?_) (fun h0 => ?_)
      · obtain ⟨s, rfl, hs⟩ := c0_int h0
        walk_at "wp"
        refine wv (F_is_below_eq hb.nd _) ?_
        walk_at "wp"
        refine wif_of (fun h1 => ?_) (fun h1 => ?_)
        · obtain ⟨i, rfl, _, _⟩ := below_int h1
          walk_at "wp"
          refine wif_dec (fun z1 => ?_) (fun z1 => ?_)
          · walk_at "wp"
            show some _ = some _
            rw [due1 hs (c1_0 z1)]; rfl
          · walk_at "wp"
            have k1 := c1_t h1 z1
            refine wv (F_is_below_eq hc.nd _) ?_
            walk_at "wp"
            refine wif_of (fun h2 => ?_) (fun h2 => ?_)
            · obtain ⟨j, rfl, _, _⟩ := below_int h2
              walk_at "wp"
              refine wv (nin2 j 0 s) ?_
              walk_at "wp"
              have k2 := c2_i h2
              refine wif_of (fun z2 => ?_) (fun z2 => ?_)
              · walk_at "wp"
                rw [z2] at k2
                refine wv (are_tables_eq hL hd hs) ?_
                walk_at "wp"
                refine wif_of (fun h3 => ?_) (fun h3 => ?_)
                · walk_at "wp"
                  refine wv (F_is_below_eq he.nd _) ?_
                  walk_at "wp"
                  refine wif_of (fun h4 => ?_) (fun h4 => ?_)
                  · walk_at "wp"
                    show some _ = some _
                    rw [due4 hs k1 k2 h3, if_neg (by rw [show belowB 4 e = true from h4]; decide)]; rfl
                  · walk_at "wp"
                    show some _ = some _
                    rw [due4 hs k1 k2 h3, if_pos (show belowB 4 e = false from h4)]; rfl
                · walk_at "wp"
                  show some _ = some _
                  rw [due3 hs k1 k2 h3]; rfl
              · walk_at "wp"
                rw [z2] at k2
                show some _ = some _
                rw [due2 hs k1 k2]; rfl
            · walk_at "wp"
              show some _ = some _
              rw [due2 hs k1 (c2_ff h2)]; rfl
        · walk_at "wp"
          show some _ = some _
          rw [due1 hs (c1_ff h1)]; rfl
      · walk_at "wp"
        show some _ = some _
        rw [due0 h0]; rfl
    · walk_at "wp"
      show some _ = some _
      rw [dueF_five h5]; rfl
  | dict _ => cases h.nd
  | _ => walk_at "wp"; first | rfl | (refine wif_f ?_; walk_at "wp"; rfl)
end K06

namespace K06
open PySem L2 Evl Pd Qt
local macro_rules | `(tactic| walk_at "wp2") => `(tactic| first
  | ((with_reducible refine wlen ?_ ?_); focus exact rfl) | ((with_reducible refine wcap ?_ ?_); focus exact Nat.le_of_ble_eq_true rfl)
  | ((with_reducible refine wv_add_tt ?_ ?_); focus (first | omega | (simp only [List.length_cons, List.length_nil, List.length_append, List.length_map]; omega))) | ((with_reducible refine wv_add_ll ?_ ?_); focus (first | omega | (simp only [List.length_cons, List.length_nil, List.length_append, List.length_map]; omega))) | ((with_reducible refine wv_mod ?_ ?_); focus (first | omega | (simp only [List.length_cons, List.length_nil, List.length_append, List.length_map]; omega)))
  | ((with_reducible refine wif_false ?_ ?_); focus decide +kernel) | ((with_reducible refine wif_true ?_ ?_); focus decide +kernel))
local macro_rules | `(tactic| walk_at "wp") => `(tactic| repeat (first | (with_reducible refine Stp.h ?_) | (with_reducible refine ws_seq ?_) | (with_reducible refine ws_if ?_) | walk_at "wp2"))
local macro_rules | `(tactic| walk_at "wq") => `(tactic| repeat (first | (with_reducible refine Stp.h ?_) | walk_at "wp2" | (with_reducible refine ws_seq (ws_asg ?_)) | (with_reducible refine ws_seq (ws_asgO ?_)) | (with_reducible refine ws_seq (ws_asgG ?_)) | (with_reducible refine ws_seq (ws_drop ?_)) | (with_reducible refine ws_seq (ws_par ?_)) | (with_reducible refine ws_seq (wi_app ?_))))

theorem wl_filter_all {f : PyData → Bool} {ds : List PyData} {n : Nat} (h : ∀ x ∈ ds, Lay n x) (hn : n < 64) : neS (.list (ds.filter fun x => !f x)) (.list []) = some (.bool (!ds.all f)) := by
  have ly : Lay (n + 1) (.list (ds.filter fun x => !f x)) := Lay.lst fun x hx => h x (List.mem_filter.mp hx).1
  rw [ne_lnil ly (by omega), all_map']
theorem law_frame_any {L n : Nat} (hL : L ≤ 1001) {v : PyData} (h : Sz L n v) (hn : n ≤ 60) : F__law_frame_due [v] = some (dueP (dueF v)) := by
  refine denQ_of ?_
  show Ws (den__law_frame_due _ _ [.fro v, .no]) _
  unfold den__law_frame_due
  cases v with
  | tuple ds =>
    walk_at "wp"
    refine wif_dec (fun h5 => ?_) (fun h5 => ?_)
    · obtain ⟨a, b, c, d, e, rfl⟩ := five h5
      obtain ⟨k, rfl, _, hall⟩ := h.tup
      have ha := hall a (by simp); have hb := hall b (by simp); have hc := hall c (by simp); have hd := hall d (by simp); have he := hall e (by simp)
      walk_at "wp"
      refine wv (law_below_eq ha.nd _) ?_
      walk_at "wp"
      refine wif_of (fun b0 => ?_) (fun b0 => ?_)
      · obtain ⟨i, rfl, i0, i4⟩ := below_int b0
        walk_at "wp"
        refine wif_dec (fun b2 => ?_) (fun b2 => ?_)
        · walk_at "wp"
          have : c0 (.int i) = false := by
            show (decide (i = 2) || decide (i = 3)) = false
            rw [decide_eq_false (by omega), decide_eq_false (by omega)]; rfl
          show some _ = some _
          rw [show dueF _ = some 0 from due0 this]; rfl
        · obtain ⟨s, rfl⟩ := Int.eq_ofNat_of_zero_le i0
          have hs : s = 2 ∨ s = 3 := by omega
          walk_at "wp"
          refine wv (law_below_eq hb.nd _) ?_
          walk_at "wp"
          refine wif_of (fun h1 => ?_) (fun h1 => ?_)
          · obtain ⟨j, rfl, _, _⟩ := below_int h1
            walk_at "wp"
            refine wif_dec (fun z1 => ?_) (fun z1 => ?_)
            · walk_at "wp"
              show some _ = some _
              rw [due1 hs (c1_0 z1)]; rfl
            · walk_at "wp"
              have k1 := c1_t h1 z1
              refine wv (law_below_eq hc.nd _) ?_
              walk_at "wp"
              refine wif_of (fun h2 => ?_) (fun h2 => ?_)
              · obtain ⟨q, rfl, q0, q4⟩ := below_int h2
                walk_at "wp"
                refine wv (nin2L q 0 s) ?_
                walk_at "wp"
                have k2 : c2 s (.int q) = (decide (q = 0) || decide (q = s)) := by
                  unfold c2
                  by_cases hq : q < (s : Int) + 1
                  · rw [show belowB ((s + 1 : Nat) : Int) (.int q) = true by rw [belowB, decide_eq_true q0, decide_eq_true (show q < ((s + 1 : Nat) : Int) from hq)]; rfl, Bool.true_and]
                  · rw [show belowB ((s + 1 : Nat) : Int) (.int q) = false by rw [belowB, decide_eq_false (show ¬ q < ((s + 1 : Nat) : Int) from hq), Bool.and_false], Bool.false_and, decide_eq_false (by omega), decide_eq_false (by omega)]; rfl
                refine wif_of (fun z2 => ?_) (fun z2 => ?_)
                · walk_at "wp"
                  rw [z2] at k2
                  have fin : ∀ (x : Bool), c3 s d = x → Wif x (dueF (.tuple [N s, .int j, .int q, d, e]) = (if belowB 4 e = false then some 4 else none)) (dueF (.tuple [N s, .int j, .int q, d, e]) = some 3) := fun x hx => wif_of (fun e1 => due4 hs k1 k2 (by rw [hx, e1])) (fun e1 => due3 hs k1 k2 (by rw [hx, e1]))
                  cases d with
                  | tuple ts =>
                    obtain ⟨k', rfl, ht, hts⟩ := hd.tup
                    walk_at "wp"
                    refine wif_dec (fun l4 => ?_) (fun l4 => ?_)
                    · walk_at "wp"
                      have : c3 s (.tuple ts) = false := by rw [c3, decide_eq_false (by omega), Bool.false_and]
                      show some _ = some _
                      rw [(fin _ this).2 rfl]; rfl
                    · walk_at "wp"
                      refine wl_genD (fun x => !(tupN (s * s : Nat) x && allB (s : Nat) x)) id (by omega) (fun x hx => ?_) ?_
                      · walk_at "wp"
                        refine wv (pow2 hs) ?_
                        walk_at "wp"
                        refine wv (law_are_below_eq hL (hts x hx) (by omega) _ _) ?_
                        walk_at "wp"
                        refine ⟨rfl, wif_of (fun hb => ?_) (fun hb => ?_)⟩ <;> walk_at "wp"
                        · exact ⟨rfl, rfl⟩
                        · exact rfl
                      · walk_at "wp"
                        rw [List.map_id]
                        refine wv (wl_filter_all (f := fun x => tupN (s * s : Nat) x && allB (s : Nat) x) (fun x hx => (hts x hx).lay) (by omega)) ?_
                        walk_at "wp"
                        have e3 : c3 s (.tuple ts) = ts.all fun x => tupN (s * s : Nat) x && allB (s : Nat) x := by rw [c3, decide_eq_true (by omega), Bool.true_and]
                        refine wif_of (fun h3 => ?_) (fun h3 => ?_)
                        · walk_at "wp"
                          refine wv (law_below_eq he.nd _) ?_
                          walk_at "wp"
                          refine wif_of (fun h4 => ?_) (fun h4 => ?_)
                          · walk_at "wp"
                            show some _ = some _
                            rw [(fin _ e3).1 h3, if_neg (by rw [h4]; decide)]; rfl
                          · walk_at "wp"
                            show some _ = some _
                            rw [(fin _ e3).1 h3, if_pos h4]; rfl
                        · walk_at "wp"
                          show some _ = some _
                          rw [(fin _ e3).2 h3]; rfl
                  | dict _ => cases hd.nd
                  | _ =>
                    walk_at "wp"
                    show some _ = some _
                    rw [(fin false rfl).2 rfl]; rfl
                · walk_at "wp"
                  rw [z2] at k2
                  show some _ = some _
                  rw [due2 hs k1 k2]; rfl
              · walk_at "wp"
                have k2 : c2 s c = false := by
                  unfold c2
                  cases c with
                  | int q =>
                    have h2' : (decide (0 ≤ q) && decide (q < 4)) = false := h2
                    have : belowB ((s + 1 : Nat) : Int) (.int q) = false := by
                      rw [belowB]
                      rcases Bool.and_eq_false_iff.mp h2' with z | z
                      · rw [z, Bool.false_and]
                      · rw [decide_eq_false (show ¬ q < ((s + 1 : Nat) : Int) by have := of_decide_eq_false z; omega), Bool.and_false]
                    rw [this, Bool.false_and]
                  | _ => rfl
                show some _ = some _
                rw [due2 hs k1 k2]; rfl
          · walk_at "wp"
            show some _ = some _
            rw [due1 hs (c1_ff h1)]; rfl
      · walk_at "wp"
        have : c0 a = false := by
          cases a with
          | int i =>
            have b0' : (decide (0 ≤ i) && decide (i < 4)) = false := b0
            show (decide (i = 2) || decide (i = 3)) = false
            rw [decide_eq_false, decide_eq_false]
            · rfl
            · rintro rfl; cases b0'
            · rintro rfl; cases b0'
          | _ => rfl
        show some _ = some _
        rw [show dueF _ = some 0 from due0 this]; rfl
    · walk_at "wp"
      show some _ = some _
      rw [dueF_five h5]; rfl
  | dict _ => cases h.nd
  | _ => walk_at "wp"; rfl
end K06

namespace K06
open PySem L2 Evl Pd Qt
local macro_rules | `(tactic| walk_at "wp2") => `(tactic| first
  | ((with_reducible refine wlen ?_ ?_); focus exact rfl) | ((with_reducible refine wcap ?_ ?_); focus exact Nat.le_of_ble_eq_true rfl)
  | ((with_reducible refine wv_add_tt ?_ ?_); focus (first | omega | (simp only [List.length_cons, List.length_nil, List.length_append, List.length_map]; omega))) | ((with_reducible refine wv_add_ll ?_ ?_); focus (first | omega | (simp only [List.length_cons, List.length_nil, List.length_append, List.length_map]; omega))) | ((with_reducible refine wv_mod ?_ ?_); focus (first | omega | (simp only [List.length_cons, List.length_nil, List.length_append, List.length_map]; omega)))
  | ((with_reducible refine wif_false ?_ ?_); focus decide +kernel) | ((with_reducible refine wif_true ?_ ?_); focus decide +kernel))
local macro_rules | `(tactic| walk_at "wp") => `(tactic| repeat (first | (with_reducible refine Stp.h ?_) | (with_reducible refine ws_seq ?_) | (with_reducible refine ws_if ?_) | walk_at "wp2"))
local macro_rules | `(tactic| walk_at "wq") => `(tactic| repeat (first | (with_reducible refine Stp.h ?_) | walk_at "wp2" | (with_reducible refine ws_seq (ws_asg ?_)) | (with_reducible refine ws_seq (ws_asgO ?_)) | (with_reducible refine ws_seq (ws_asgG ?_)) | (with_reducible refine ws_seq (ws_drop ?_)) | (with_reducible refine ws_seq (ws_par ?_)) | (with_reducible refine ws_seq (wi_app ?_))))

/-! ### rows of any form -/
def strEq (w : Str) : PyData → Bool
  | .str s => decide (s = w)
  | _ => false
theorem eqv_ns {x : PyData} {w : Str} (h : isStrB x = false) : x.eqv (.str w) = false := by
  cases x with
  | str s => cases h
  | _ => rfl
theorem eq_str {n : Nat} {x : PyData} (h : Lay n x) (hn : n ≤ 64) {w : Str} (hw : PyData.strOk w = true) : eqS x (.str w) = some (.bool (strEq w x)) := by
  cases x with
  | str s => rfl
  | _ =>
    rw [eqS_sh (h.shaped hn) ((Lay.str hw).shaped (by decide)) (.inl rfl), eqv_ns rfl]
    rfl
def rowsB (r : PyData → Bool) : PyData → Bool
  | .tuple ds => ds.all r
  | _ => false
theorem are_rows_any {L n : Nat} (hL : L ≤ 1001) {fh : FnQ} {fe : PyData} {r : PyData → Bool} {y : PyData} (h : Sz L n y) (hf : ∀ ds, y = .tuple ds → ∀ x ∈ ds, fh [fe, x] = some (.bool (r x))) : G_are_rows fh [fe, y] = some (.bool (rowsB r y)) := by
  refine denQ_of ?_
  show Ws (den_are_rows _ [.fro fe, .fro y, .no]) _
  unfold den_are_rows
  cases y with
  | tuple ds =>
    obtain ⟨k, rfl, hl, hall⟩ := h.tup
    walk_at "wp"
    refine wl_mapD (fun x => .bool (r x)) (by omega) (fun x hx => ?_) ?_
    · walk_at "wp"
      refine wv (hf ds rfl x hx) ?_
      walk_at "wp"
      exact ⟨rfl, rfl⟩
    · walk_at "wp"
      refine wv (y := .bool (ds.all r)) ?_ ?_
      · show (boolsD _).map _ = _
        rw [bools_map, Option.map_some, all_map]
      · walk_at "wp"; rfl
  | dict _ => cases h.nd
  | _ => walk_at "wp"; rfl
def badOf (r : PyData → Bool) (l : List (PyData × Nat)) : List (PyData × Nat) := l.filter fun p => !r p.1
def dueD (r : PyData → Bool) : PyData → Option Int
  | .tuple ds => ((badOf r ds.zipIdx).head?).map fun p => (p.2 : Int)
  | _ => some (-1)
theorem bad_none {r : PyData → Bool} : ∀ (ds : List PyData) (k : Nat), (badOf r (ds.zipIdx k)).isEmpty = ds.all r
  | [], _ => rfl
  | d :: ds, k => by
    rw [List.zipIdx_cons, badOf, List.filter_cons, List.all_cons]
    cases hd : r d with
    | true => simpa [badOf] using bad_none ds (k + 1)
    | false => rfl
theorem due_none (r : PyData → Bool) (y : PyData) : (dueD r y).isNone = rowsB r y := by
  cases y with
  | tuple ds =>
    have e := bad_none (r := r) ds 0
    show (Option.map _ (badOf r ds.zipIdx).head?).isNone = ds.all r
    rw [← e]
    cases badOf r ds.zipIdx <;> rfl
  | _ => rfl
abbrev encE (p : PyData × Nat) : PyData := .tuple [.int (p.2 : Int), p.1]
theorem enumD_E (ds : List PyData) : enumD 0 ds = ds.zipIdx.map encE := by
  have := enumD_map id ds 0
  rw [List.map_id] at this
  exact this
theorem mem_zip {ds : List PyData} {k : Nat} {p : PyData × Nat} (h : p ∈ ds.zipIdx k) : p.1 ∈ ds := List.fst_mem_of_mem_zipIdx h
theorem law_due_any {L n : Nat} (hL : L ≤ 1001) {fh : FnQ} {fe : PyData} {r : PyData → Bool} {y : PyData} (h : Sz L n y) (hf : ∀ ds, y = .tuple ds → ∀ x ∈ ds, fh [fe, x] = some (.bool (r x))) : G__law_due fh [fe, y] = some (dueP (dueD r y)) := by
  refine denQ_of ?_
  show Ws (den__law_due _ [.fro fe, .fro y, .no, .no, .no]) _
  unfold den__law_due
  cases y with
  | tuple ds =>
    obtain ⟨k, rfl, hl, hall⟩ := h.tup
    walk_at "wp"
    rw [enumD_E]
    refine wl_gen encE (fun p => !r p.1) (fun p => .int (p.2 : Int)) ds.zipIdx (by rw [List.length_zipIdx]; omega) (fun p hp => ?_) ?_
    · walk_at "wp"
      refine wv (hf ds rfl p.1 (mem_zip hp)) ?_
      walk_at "wp"
      refine ⟨rfl, wif_of (fun hb => ?_) (fun hb => ?_)⟩ <;> walk_at "wp"
      · exact ⟨rfl, rfl⟩
      · exact rfl
    · walk_at "wp"
      show Wv (eqS (.list ((badOf r ds.zipIdx).map _)) _) _
      have ly : Lay 1 (.list ((badOf r ds.zipIdx).map fun p => PyData.int (p.2 : Int))) := Lay.lst fun x hx => by
        obtain ⟨p, _, rfl⟩ := List.mem_map.mp hx
        exact Lay.int
      refine wv (eq_lnil ly (by decide)) ?_
      walk_at "wp"
      show Wif _ _ _
      have e : dueD r (.tuple ds) = ((badOf r ds.zipIdx).head?).map fun p => (p.2 : Int) := rfl
      rw [e]
      cases hb : badOf r ds.zipIdx with
      | nil => refine wif_true rfl ?_; walk_at "wp"; rfl
      | cons p l =>
        refine wif_false rfl ?_
        rw [show (ds.zipIdx.filter fun p => !r p.1) = p :: l from hb]
        walk_at "wp"
        refine wv (y := .int (p.2 : Int)) (ix_natL (i := 0) rfl) ?_
        walk_at "wp"
        rfl
  | dict _ => cases h.nd
  | _ => walk_at "wp"; rfl
end K06

namespace K06
open PySem L2 Evl Pd Qt
local macro_rules | `(tactic| walk_at "wp2") => `(tactic| first
  | ((with_reducible refine wlen ?_ ?_); focus exact rfl) | ((with_reducible refine wcap ?_ ?_); focus exact Nat.le_of_ble_eq_true rfl)
  | ((with_reducible refine wv_add_tt ?_ ?_); focus (first | omega | (simp only [List.length_cons, List.length_nil, List.length_append, List.length_map]; omega))) | ((with_reducible refine wv_add_ll ?_ ?_); focus (first | omega | (simp only [List.length_cons, List.length_nil, List.length_append, List.length_map]; omega))) | ((with_reducible refine wv_mod ?_ ?_); focus (first | omega | (simp only [List.length_cons, List.length_nil, List.length_append, List.length_map]; omega)))
  | ((with_reducible refine wif_false ?_ ?_); focus decide +kernel) | ((with_reducible refine wif_true ?_ ?_); focus decide +kernel))
local macro_rules | `(tactic| walk_at "wp") => `(tactic| repeat (first | (with_reducible refine Stp.h ?_) | (with_reducible refine ws_seq ?_) | (with_reducible refine ws_if ?_) | walk_at "wp2"))
local macro_rules | `(tactic| walk_at "wq") => `(tactic| repeat (first | (with_reducible refine Stp.h ?_) | walk_at "wp2" | (with_reducible refine ws_seq (ws_asg ?_)) | (with_reducible refine ws_seq (ws_asgO ?_)) | (with_reducible refine ws_seq (ws_asgG ?_)) | (with_reducible refine ws_seq (ws_drop ?_)) | (with_reducible refine ws_seq (ws_par ?_)) | (with_reducible refine ws_seq (wi_app ?_))))

abbrev six : List PyData := [.str "op", .str "load", .str "store", .str "fence", .str "fork", .str "loop"]
theorem six_shaped : SeqAt.shaped (.list six) = true := by decide +kernel
theorem nin_six {n : Nat} {x : PyData} (h : Lay n x) (hn : n ≤ 64) : notInP x (.list six) = some (.bool (!(strEq "op" x || strEq "load" x || strEq "store" x || strEq "fence" x || strEq "fork" x || strEq "loop" x))) := by
  have e : ∀ w : Str, (PyData.str w).eqv x = strEq w x := fun w => by
    cases x with
    | str s =>
      show (w == s) = decide (s = w)
      by_cases h : s = w
      · rw [decide_eq_true h]; exact beq_iff_eq.mpr h.symm
      · rw [decide_eq_false h]; exact beq_eq_false_iff_ne.mpr fun z => h z.symm
    | _ => rfl
  show (if _ then _ else _) = _
  rw [if_pos ⟨h.shaped hn, six_shaped⟩]
  simp only [List.any_cons, List.any_nil, e, Bool.or_false, Bool.or_assoc]
theorem in_ls {n : Nat} {x : PyData} (h : Lay n x) (hn : n ≤ 64) : inP x (.tuple [.str "load", .str "store"]) = some (.bool (strEq "load" x || strEq "store" x)) := by
  have e : ∀ w : Str, (PyData.str w).eqv x = strEq w x := fun w => by
    cases x with
    | str s =>
      show (w == s) = decide (s = w)
      by_cases h : s = w
      · rw [decide_eq_true h]; exact beq_iff_eq.mpr h.symm
      · rw [decide_eq_false h]; exact beq_eq_false_iff_ne.mpr fun z => h z.symm
    | _ => rfl
  show (if _ then _ else _) = _
  rw [if_pos (.inr ⟨h.shaped hn, by decide +kernel⟩)]
  simp only [List.any_cons, List.any_nil, e, Bool.or_false]
theorem in_lsL {n : Nat} {x : PyData} (h : Lay n x) (hn : n ≤ 64) : inP x (.list [.str "load", .str "store"]) = some (.bool (strEq "load" x || strEq "store" x)) := by
  have e : ∀ w : Str, (PyData.str w).eqv x = strEq w x := fun w => by
    cases x with
    | str s =>
      show (w == s) = decide (s = w)
      by_cases h : s = w
      · rw [decide_eq_true h]; exact beq_iff_eq.mpr h.symm
      · rw [decide_eq_false h]; exact beq_eq_false_iff_ne.mpr fun z => h z.symm
    | _ => rfl
  show (if _ then _ else _) = _
  rw [if_pos ⟨h.shaped hn, by decide +kernel⟩]
  simp only [List.any_cons, List.any_nil, e, Bool.or_false]
def silB (f : Fr) (x : PyData) (xs : List PyData) : Bool :=
  if strEq "op" x = true then (decide (xs.length = 4) && belowB f.tabs.length (xs.getD 0 .none) && allB f.regs (.tuple (xs.drop 1))) else if (strEq "load" x || strEq "store" x) = true then (decide (0 < f.cells) && decide (xs.length = 2) && allB f.regs (.tuple xs)) else false
theorem silent_any {L n : Nat} {f : Fr} {x : PyData} {xs : List PyData} (h : Sz L n (.tuple (x :: xs))) (hn : n ≤ 60) (hL : L ≤ 1001) : F_is_silent_row [f.enc, .tuple (x :: xs)] = some (.bool (silB f x xs)) := by
  obtain ⟨k, rfl, hl, hall⟩ := h.tup
  have hx := (hall x List.mem_cons_self).lay
  unfold silB
  have hfe : f.enc = .tuple [N f.size, N f.regs, N f.cells, .tuple (f.tabs.map T), N f.deep] := rfl
  refine denQ_of ?_
  show Ws (den_is_silent_row _ _ [.fro f.enc, .fro (.tuple (x :: xs))]) _
  unfold den_is_silent_row
  rw [hfe]
  walk_at "wp"
  refine wif_false (decide_eq_false (by rw [List.length_cons]; omega)) ?_
  walk_at "wp"
  refine wv (eq_str hx (by omega) (by decide +kernel)) ?_
  walk_at "wp"
  refine wif_of (fun e1 => ?_) (fun e1 => ?_)
  · walk_at "wp"
    rw [if_pos e1]
    refine wif_dec (fun l5 => ?_) (fun l5 => ?_)
    · have l5' : xs.length = 4 := by rw [List.length_cons] at l5; omega
      match xs, l5' with
      | [a, b, c, d], _ =>
        walk_at "wp"
        refine wv (F_is_below_eq (hall a (by simp)).nd _) ?_
        walk_at "wp"
        have el : ((f.tabs.map T).length : Int) = f.tabs.length := by rw [List.length_map]
        rw [el]
        refine wif_of (fun e2 => ?_) (fun e2 => ?_)
        · walk_at "wp"
          rw [show cutD [x, a, b, c, d] (some 2) none = [b, c, d] from cut_drop _ 2 (by simp)]
          have hs : Sz L (k + 1) (.tuple [b, c, d]) := sz_tup (by simp at hl ⊢; omega) fun y hy => hall y (by simp at hy ⊢; rcases hy with rfl | rfl | rfl <;> simp)
          refine wv (are_below_eq hs _) ?_
          walk_at "wp"
          show some _ = some _
          congr 2
          show _ = (true && belowB _ a && _)
          rw [e2]
          rfl
        · walk_at "wp"
          show some _ = some _
          congr 2
          show _ = (true && belowB _ a && _)
          rw [e2]
          rfl
    · walk_at "wp"
      show some _ = some _
      have : ¬ xs.length = 4 := fun z => l5 (by rw [List.length_cons, z]; rfl)
      rw [decide_eq_false this]
      rfl
  · walk_at "wp"
    rw [if_neg (by rw [e1]; decide)]
    refine wv (in_ls hx (by omega)) ?_
    walk_at "wp"
    refine wif_of (fun e2 => ?_) (fun e2 => ?_)
    · walk_at "wp"
      rw [if_pos e2]
      refine wif_dec (fun c0 => ?_) (fun c0 => ?_)
      · walk_at "wp"
        refine wif_dec (fun l3 => ?_) (fun l3 => ?_)
        · walk_at "wp"
          rw [show cutD (x :: xs) (some 1) none = xs from cut_drop (x :: xs) 1 (by simp)]
          have hs : Sz L (k + 1) (.tuple xs) := sz_tup (by rw [List.length_cons] at hl; omega) fun y hy => hall y (List.mem_cons_of_mem _ hy)
          refine wv (are_below_eq hs _) ?_
          walk_at "wp"
          show some _ = some _
          rw [decide_eq_true (show 0 < f.cells by omega), decide_eq_true (show xs.length = 2 by rw [List.length_cons] at l3; omega)]
          rfl
        · walk_at "wp"
          show some _ = some _
          rw [decide_eq_false (show ¬ xs.length = 2 from fun z => l3 (by rw [List.length_cons, z]; rfl)), Bool.and_false]
          rfl
      · walk_at "wp"
        show some _ = some _
        rw [decide_eq_false (show ¬ 0 < f.cells by omega)]
        rfl
    · walk_at "wp"
      rw [if_neg (by rw [e2]; decide)]
      rfl
end K06

namespace K06
open PySem L2 Evl Pd Qt
local macro_rules | `(tactic| walk_at "wp2") => `(tactic| first
  | ((with_reducible refine wlen ?_ ?_); focus exact rfl) | ((with_reducible refine wcap ?_ ?_); focus exact Nat.le_of_ble_eq_true rfl)
  | ((with_reducible refine wv_add_tt ?_ ?_); focus (first | omega | (simp only [List.length_cons, List.length_nil, List.length_append, List.length_map]; omega))) | ((with_reducible refine wv_add_ll ?_ ?_); focus (first | omega | (simp only [List.length_cons, List.length_nil, List.length_append, List.length_map]; omega))) | ((with_reducible refine wv_mod ?_ ?_); focus (first | omega | (simp only [List.length_cons, List.length_nil, List.length_append, List.length_map]; omega)))
  | ((with_reducible refine wif_false ?_ ?_); focus decide +kernel) | ((with_reducible refine wif_true ?_ ?_); focus decide +kernel))
local macro_rules | `(tactic| walk_at "wp") => `(tactic| repeat (first | (with_reducible refine Stp.h ?_) | (with_reducible refine ws_seq ?_) | (with_reducible refine ws_if ?_) | walk_at "wp2"))
local macro_rules | `(tactic| walk_at "wq") => `(tactic| repeat (first | (with_reducible refine Stp.h ?_) | walk_at "wp2" | (with_reducible refine ws_seq (ws_asg ?_)) | (with_reducible refine ws_seq (ws_asgO ?_)) | (with_reducible refine ws_seq (ws_asgG ?_)) | (with_reducible refine ws_seq (ws_drop ?_)) | (with_reducible refine ws_seq (ws_par ?_)) | (with_reducible refine ws_seq (wi_app ?_))))

def rowV (f : Fr) (r : PyData → Bool) (x : PyData) (xs : List PyData) : Bool :=
  if strEq "fork" x = true then (decide (xs.length = 3) && belowB f.regs (xs.getD 0 .none) && rowsB r (xs.getD 1 .none) && rowsB r (xs.getD 2 .none))
  else if strEq "loop" x = true then (decide (xs.length = 2) && belowB 5 (xs.getD 0 .none) && rowsB r (xs.getD 1 .none))
  else if strEq "fence" x = true then decide (xs.length = 0)
  else silB f x xs
theorem eqv_fence (x : PyData) (xs : List PyData) : (PyData.tuple (x :: xs)).eqv (.tuple [.str "fence"]) = (strEq "fence" x && decide (xs.length = 0)) := by
  have e : x.eqv (.str "fence") = strEq "fence" x := by
    cases x with
    | str s =>
      show (s == ("fence" : Str)) = decide (s = "fence")
      by_cases h : s = ("fence" : Str)
      · rw [decide_eq_true h]; exact beq_iff_eq.mpr h
      · rw [decide_eq_false h]; exact beq_eq_false_iff_ne.mpr h
    | _ => rfl
  cases xs with
  | nil => simp [PyData.eqv, PyData.eqvAll, e]
  | cons y ys => simp [PyData.eqv, PyData.eqvAll]
theorem is_row_any {L n : Nat} (hL : L ≤ 1001) {f : Fr} {r : PyData → Bool} {fr : FnQ} {x : PyData} {xs : List PyData} (h : Sz L n (.tuple (x :: xs))) (hn : n ≤ 60)
    (hr : ∀ y ∈ xs, ∀ ds, y = .tuple ds → ∀ z ∈ ds, fr [f.enc, z] = some (.bool (r z))) {k : Nat} (hk : F_is_row k = fr) : F_is_row (k + 1) [f.enc, .tuple (x :: xs)] = some (.bool (rowV f r x xs)) := by
  have hfe : f.enc = .tuple [N f.size, N f.regs, N f.cells, .tuple (f.tabs.map T), N f.deep] := rfl
  obtain ⟨n', rfl, hl, hall⟩ := h.tup
  have hx := (hall x List.mem_cons_self).lay
  have rows : ∀ y ∈ xs, G_are_rows (F_is_row k) [f.enc, y] = some (.bool (rowsB r y)) := fun y hy => are_rows_any hL (hall y (List.mem_cons_of_mem _ hy)) (by rw [hk]; exact hr y hy)
  rw [F_is_row]
  refine denQ_of ?_
  show Ws (den_is_row _ _ _ [.fro f.enc, .fro (.tuple (x :: xs))]) _
  unfold den_is_row rowV
  rw [hfe] at rows ⊢
  walk_at "wp"
  refine wif_false (decide_eq_false (by rw [List.length_cons]; omega)) ?_
  walk_at "wp"
  refine wv (eq_str hx (by omega) (by decide +kernel)) ?_
  walk_at "wp"
  refine wif_of (fun e1 => ?_) (fun e1 => ?_)
  · walk_at "wp"
    rw [if_pos e1]
    refine wif_dec (fun l5 => ?_) (fun l5 => ?_)
    · have l5' : xs.length = 3 := by rw [List.length_cons] at l5; omega
      match xs, l5' with
      | [a, b, c], _ =>
        walk_at "wp"
        refine wv (F_is_below_eq (hall a (by simp)).nd _) ?_
        walk_at "wp"
        refine wif_of (fun e2 => ?_) (fun e2 => ?_)
        · walk_at "wp"
          refine wv (rows b (by simp)) ?_
          walk_at "wp"
          refine wif_of (fun e3 => ?_) (fun e3 => ?_)
          · walk_at "wp"
            refine wv (rows c (by simp)) ?_
            walk_at "wp"
            show some _ = some (PyData.bool (true && belowB f.regs a && rowsB r b && rowsB r c))
            rw [e2, e3]; rfl
          · walk_at "wp"
            show some _ = some (PyData.bool (true && belowB f.regs a && rowsB r b && rowsB r c))
            rw [e2, e3]; rfl
        · walk_at "wp"
          show some _ = some (PyData.bool (true && belowB f.regs a && rowsB r b && rowsB r c))
          rw [e2]; rfl
    · walk_at "wp"
      have : ¬ xs.length = 3 := fun z => l5 (by rw [List.length_cons, z]; rfl)
      show some _ = some _
      rw [decide_eq_false this]
      rfl
  · walk_at "wp"
    rw [if_neg (by rw [e1]; decide)]
    refine wv (eq_str hx (by omega) (by decide +kernel)) ?_
    walk_at "wp"
    refine wif_of (fun e2 => ?_) (fun e2 => ?_)
    · walk_at "wp"
      rw [if_pos e2]
      refine wif_dec (fun l5 => ?_) (fun l5 => ?_)
      · have l5' : xs.length = 2 := by rw [List.length_cons] at l5; omega
        match xs, l5' with
        | [a, b], _ =>
          walk_at "wp"
          refine wv (F_is_below_eq (hall a (by simp)).nd _) ?_
          walk_at "wp"
          refine wif_of (fun e3 => ?_) (fun e3 => ?_)
          · walk_at "wp"
            refine wv (rows b (by simp)) ?_
            walk_at "wp"
            show some _ = some (PyData.bool (true && belowB 5 a && rowsB r b))
            rw [show belowB 5 a = true from e3]; rfl
          · walk_at "wp"
            show some _ = some (PyData.bool (true && belowB 5 a && rowsB r b))
            rw [show belowB 5 a = false from e3]; rfl
      · walk_at "wp"
        have : ¬ xs.length = 2 := fun z => l5 (by rw [List.length_cons, z]; rfl)
        show some _ = some _
        rw [decide_eq_false this]
        rfl
    · walk_at "wp"
      rw [if_neg (by rw [e2]; decide)]
      refine wv (eqS_sh (h.lay.shaped (by omega)) (by decide +kernel) (.inl rfl)) ?_
      walk_at "wp"
      rw [eqv_fence]
      have hsil := silent_any (f := f) h hn hL
      rw [hfe] at hsil
      cases e3 : strEq "fence" x with
      | true =>
        rw [if_pos rfl, Bool.true_and]
        refine wif_dec (fun l1 => ?_) (fun l1 => ?_)
        · walk_at "wp"
          rw [decide_eq_true l1]; rfl
        · walk_at "wp"
          refine wv hsil ?_
          walk_at "wp"
          have o : silB f x xs = false := by
            cases x with
            | str s =>
              have hs : s = ("fence" : Str) := of_decide_eq_true e3
              subst hs
              have q1 : strEq "op" (.str "fence") = false := by decide +kernel
              have q2 : (strEq "load" (.str "fence") || strEq "store" (.str "fence")) = false := by decide +kernel
              rw [silB, if_neg (by rw [q1]; decide), if_neg (by rw [q2]; decide)]
            | _ => cases e3
          rw [o, decide_eq_false l1]; rfl
      | false =>
        rw [if_neg (by decide), Bool.false_and]
        walk_at "wp"
        refine wv hsil ?_
        walk_at "wp"
        rfl
theorem idx_six {w : Str} {j : Nat} {i : Int} (hi : (j : Int) = i) (h1 : PyData.strOk w = true) (h2 : findD (.str w) six = some j) : indexP six [.str w] = some (.int i) := by
  subst hi
  show (if _ then _ else _) = _
  rw [if_pos ⟨six_shaped, (Lay.str h1).shaped (by decide)⟩, h2]
  rfl
theorem law_row_any {L n : Nat} (hL : L ≤ 1001) {f : Fr} {r : PyData → Bool} {fr : FnQ} {x : PyData} {xs : List PyData} (h : Sz L n (.tuple (x :: xs))) (hn : n ≤ 60)
    (hr : ∀ y ∈ xs, ∀ ds, y = .tuple ds → ∀ z ∈ ds, fr [f.enc, z] = some (.bool (r z))) {k : Nat} (hk : F__law_is_row k = fr) : F__law_is_row (k + 1) [f.enc, .tuple (x :: xs)] = some (.bool (rowV f r x xs)) := by
  have hfe : f.enc = .tuple [N f.size, N f.regs, N f.cells, .tuple (f.tabs.map T), N f.deep] := rfl
  obtain ⟨n', rfl, hl, hall⟩ := h.tup
  have hx := (hall x List.mem_cons_self).lay
  have rows : ∀ y ∈ xs, G__law_due (F__law_is_row k) [f.enc, y] = some (dueP (dueD r y)) := fun y hy => law_due_any hL (hall y (List.mem_cons_of_mem _ hy)) (by rw [hk]; exact hr y hy)
  have isn : ∀ y, isNoneP (dueP (dueD r y)) = rowsB r y := fun y => by
    rw [← due_none]
    cases dueD r y <;> rfl
  rw [F__law_is_row]
  refine denQ_of ?_
  show Ws (den__law_is_row _ _ _ [.fro f.enc, .fro (.tuple (x :: xs))]) _
  unfold den__law_is_row
  rw [hfe] at rows ⊢
  walk_at "wp"
  refine wv (eq_nil h.lay (by omega)) ?_
  walk_at "wp"
  refine wif_false rfl ?_
  walk_at "wp"
  refine wv (nin_six hx (by omega)) ?_
  walk_at "wp"
  have fin : ∀ (w : Str) (b : Bool), x = .str w → rowV f r (.str w) xs = b → rowV f r x xs = b := fun w b e h => by rw [e]; exact h
  cases x with
  | str w =>
    by_cases w1 : w = "op"
    · subst w1
      walk_at "wp"
      refine wv (idx_six (j := 0) (i := 0) rfl (by decide +kernel) (by decide +kernel)) ?_
      walk_at "wp"
      have z : rowV f r (.str "op") xs = (decide (xs.length = 4) && belowB f.tabs.length (xs.getD 0 .none) && allB f.regs (.tuple (xs.drop 1))) := by
        unfold rowV silB
        simp only [show strEq "fork" (.str "op") = false from by decide +kernel, show strEq "loop" (.str "op") = false from by decide +kernel, show strEq "fence" (.str "op") = false from by decide +kernel, show strEq "op" (.str "op") = true from by decide +kernel, show strEq "load" (.str "op") = false from by decide +kernel, show strEq "store" (.str "op") = false from by decide +kernel, Bool.true_or, Bool.or_true, if_true, if_false, Bool.false_eq_true]
      refine wif_dec (fun l5 => ?_) (fun l5 => ?_)
      · have l5' : xs.length = 4 := by rw [List.length_cons] at l5; omega
        rw [z]
        match xs, l5' with
        | [a, b, c, d], _ =>
          walk_at "wp"
          refine wv (law_below_eq (hall a (by simp)).nd _) ?_
          walk_at "wp"
          have el : ((f.tabs.map T).length : Int) = f.tabs.length := by rw [List.length_map]
          rw [el]
          refine wif_of (fun e2 => ?_) (fun e2 => ?_)
          · walk_at "wp"
            rw [show cutD [.str "op", a, b, c, d] (some 2) none = [b, c, d] from cut_drop _ 2 (by simp)]
            have hs : Sz L (n' + 1) (.tuple [b, c, d]) := sz_tup (by simp at hl ⊢; omega) fun y hy => hall y (by simp at hy ⊢; rcases hy with rfl | rfl | rfl <;> simp)
            refine wv (law_are_below_eq hL hs (by omega) _ _) ?_
            walk_at "wp"
            show some (PyData.bool (true && _)) = some (PyData.bool (true && belowB _ a && _))
            rw [e2]; rfl
          · walk_at "wp"
            show some _ = some (PyData.bool (true && belowB _ a && _))
            rw [e2]; rfl
      · walk_at "wp"
        have : ¬ xs.length = 4 := fun z => l5 (by rw [List.length_cons, z]; rfl)
        rw [z, decide_eq_false this]
        simp only [Bool.and_false, Bool.false_and]
        rfl
    by_cases w2 : w = "load"
    · subst w2
      walk_at "wp"
      refine wv (idx_six (j := 1) (i := 1) rfl (by decide +kernel) (by decide +kernel)) ?_
      walk_at "wp"
      have z : rowV f r (.str "load") xs = (decide (0 < f.cells) && decide (xs.length = 2) && allB f.regs (.tuple xs)) := by
        unfold rowV silB
        simp only [show strEq "fork" (.str "load") = false from by decide +kernel, show strEq "loop" (.str "load") = false from by decide +kernel, show strEq "fence" (.str "load") = false from by decide +kernel, show strEq "op" (.str "load") = false from by decide +kernel, show strEq "load" (.str "load") = true from by decide +kernel, show strEq "store" (.str "load") = false from by decide +kernel, Bool.true_or, Bool.or_true, if_true, if_false, Bool.false_eq_true]
      refine wif_dec (fun l5 => ?_) (fun l5 => ?_)
      · have l5' : xs.length = 2 := by rw [List.length_cons] at l5; omega
        rw [z]
        match xs, l5' with
        | [a, b], _ =>
          walk_at "wp"
          refine wv (in_lsL hx (by omega)) ?_
          walk_at "wp"
          refine wif_dec (fun c0 => ?_) (fun c0 => ?_)
          · walk_at "wp"
            rw [show cutD [.str "load", a, b] (some 1) none = [a, b] from cut_drop _ 1 (by simp)]
            have hs : Sz L (n' + 1) (.tuple [a, b]) := sz_tup (by simp at hl ⊢; omega) fun y hy => hall y (List.mem_cons_of_mem _ hy)
            refine wv (law_are_below_eq hL hs (by omega) _ _) ?_
            walk_at "wp"
            show some (PyData.bool (true && _)) = some (PyData.bool (decide (0 < f.cells) && true && _))
            rw [decide_eq_true (show 0 < f.cells by omega)]; rfl
          · walk_at "wp"
            show some _ = some (PyData.bool (decide (0 < f.cells) && true && _))
            rw [decide_eq_false (show ¬ 0 < f.cells by omega)]; rfl
      · walk_at "wp"
        have : ¬ xs.length = 2 := fun z => l5 (by rw [List.length_cons, z]; rfl)
        rw [z, decide_eq_false this]
        simp only [Bool.and_false, Bool.false_and]
        rfl
    by_cases w3 : w = "store"
    · subst w3
      walk_at "wp"
      refine wv (idx_six (j := 2) (i := 2) rfl (by decide +kernel) (by decide +kernel)) ?_
      walk_at "wp"
      have z : rowV f r (.str "store") xs = (decide (0 < f.cells) && decide (xs.length = 2) && allB f.regs (.tuple xs)) := by
        unfold rowV silB
        simp only [show strEq "fork" (.str "store") = false from by decide +kernel, show strEq "loop" (.str "store") = false from by decide +kernel, show strEq "fence" (.str "store") = false from by decide +kernel, show strEq "op" (.str "store") = false from by decide +kernel, show strEq "load" (.str "store") = false from by decide +kernel, show strEq "store" (.str "store") = true from by decide +kernel, Bool.true_or, Bool.or_true, if_true, if_false, Bool.false_eq_true]
      refine wif_dec (fun l5 => ?_) (fun l5 => ?_)
      · have l5' : xs.length = 2 := by rw [List.length_cons] at l5; omega
        rw [z]
        match xs, l5' with
        | [a, b], _ =>
          walk_at "wp"
          refine wv (in_lsL hx (by omega)) ?_
          walk_at "wp"
          refine wif_dec (fun c0 => ?_) (fun c0 => ?_)
          · walk_at "wp"
            rw [show cutD [.str "store", a, b] (some 1) none = [a, b] from cut_drop _ 1 (by simp)]
            have hs : Sz L (n' + 1) (.tuple [a, b]) := sz_tup (by simp at hl ⊢; omega) fun y hy => hall y (List.mem_cons_of_mem _ hy)
            refine wv (law_are_below_eq hL hs (by omega) _ _) ?_
            walk_at "wp"
            show some (PyData.bool (true && _)) = some (PyData.bool (decide (0 < f.cells) && true && _))
            rw [decide_eq_true (show 0 < f.cells by omega)]; rfl
          · walk_at "wp"
            show some _ = some (PyData.bool (decide (0 < f.cells) && true && _))
            rw [decide_eq_false (show ¬ 0 < f.cells by omega)]; rfl
      · walk_at "wp"
        have : ¬ xs.length = 2 := fun z => l5 (by rw [List.length_cons, z]; rfl)
        rw [z, decide_eq_false this]
        simp only [Bool.and_false, Bool.false_and]
        rfl
    by_cases w4 : w = "fence"
    · subst w4
      walk_at "wp"
      refine wv (idx_six (j := 3) (i := 3) rfl (by decide +kernel) (by decide +kernel)) ?_
      walk_at "wp"
      have z : rowV f r (.str "fence") xs = (decide (xs.length = 0)) := by
        unfold rowV silB
        simp only [show strEq "fork" (.str "fence") = false from by decide +kernel, show strEq "loop" (.str "fence") = false from by decide +kernel, show strEq "fence" (.str "fence") = true from by decide +kernel, show strEq "op" (.str "fence") = false from by decide +kernel, show strEq "load" (.str "fence") = false from by decide +kernel, show strEq "store" (.str "fence") = false from by decide +kernel, Bool.true_or, Bool.or_true, if_true, if_false, Bool.false_eq_true]
      refine wif_dec (fun l5 => ?_) (fun l5 => ?_)
      · have l5' : xs.length = 0 := by rw [List.length_cons] at l5; omega
        rw [z]
        match xs, l5' with
        | [], _ =>
          walk_at "wp"
          refine wv (in_lsL hx (by omega)) ?_
          walk_at "wp"
          rfl
      · walk_at "wp"
        have : ¬ xs.length = 0 := fun z => l5 (by rw [List.length_cons, z]; rfl)
        rw [z, decide_eq_false this]
        
        rfl
    by_cases w5 : w = "fork"
    · subst w5
      walk_at "wp"
      refine wv (idx_six (j := 4) (i := 4) rfl (by decide +kernel) (by decide +kernel)) ?_
      walk_at "wp"
      have z : rowV f r (.str "fork") xs = (decide (xs.length = 3) && belowB f.regs (xs.getD 0 .none) && rowsB r (xs.getD 1 .none) && rowsB r (xs.getD 2 .none)) := by
        unfold rowV silB
        simp only [show strEq "fork" (.str "fork") = true from by decide +kernel, show strEq "loop" (.str "fork") = false from by decide +kernel, show strEq "fence" (.str "fork") = false from by decide +kernel, show strEq "op" (.str "fork") = false from by decide +kernel, show strEq "load" (.str "fork") = false from by decide +kernel, show strEq "store" (.str "fork") = false from by decide +kernel, Bool.true_or, Bool.or_true, if_true, if_false, Bool.false_eq_true]
      refine wif_dec (fun l5 => ?_) (fun l5 => ?_)
      · have l5' : xs.length = 3 := by rw [List.length_cons] at l5; omega
        rw [z]
        match xs, l5' with
        | [a, b, c], _ =>
          walk_at "wp"
          refine wv (in_lsL hx (by omega)) ?_
          walk_at "wp"
          refine wv (law_below_eq (hall a (by simp)).nd _) ?_
          walk_at "wp"
          refine wif_of (fun e2 => ?_) (fun e2 => ?_)
          · walk_at "wp"
            refine wv (rows b (by simp)) ?_
            walk_at "wp"
            rw [isn]
            refine wif_of (fun e3 => ?_) (fun e3 => ?_)
            · walk_at "wp"
              refine wv (rows c (by simp)) ?_
              walk_at "wp"
              rw [isn]
              show some _ = some (PyData.bool (true && belowB f.regs a && rowsB r b && rowsB r c))
              rw [e2, e3]; rfl
            · walk_at "wp"
              show some _ = some (PyData.bool (true && belowB f.regs a && rowsB r b && rowsB r c))
              rw [e2, e3]; rfl
          · walk_at "wp"
            show some _ = some (PyData.bool (true && belowB f.regs a && rowsB r b && rowsB r c))
            rw [e2]; rfl
      · walk_at "wp"
        have : ¬ xs.length = 3 := fun z => l5 (by rw [List.length_cons, z]; rfl)
        rw [z, decide_eq_false this]
        simp only [Bool.and_false, Bool.false_and]
        rfl
    by_cases w6 : w = "loop"
    · subst w6
      walk_at "wp"
      refine wv (idx_six (j := 5) (i := 5) rfl (by decide +kernel) (by decide +kernel)) ?_
      walk_at "wp"
      have z : rowV f r (.str "loop") xs = (decide (xs.length = 2) && belowB 5 (xs.getD 0 .none) && rowsB r (xs.getD 1 .none)) := by
        unfold rowV silB
        simp only [show strEq "fork" (.str "loop") = false from by decide +kernel, show strEq "loop" (.str "loop") = true from by decide +kernel, show strEq "fence" (.str "loop") = false from by decide +kernel, show strEq "op" (.str "loop") = false from by decide +kernel, show strEq "load" (.str "loop") = false from by decide +kernel, show strEq "store" (.str "loop") = false from by decide +kernel, Bool.true_or, Bool.or_true, if_true, if_false, Bool.false_eq_true]
      refine wif_dec (fun l5 => ?_) (fun l5 => ?_)
      · have l5' : xs.length = 2 := by rw [List.length_cons] at l5; omega
        rw [z]
        match xs, l5' with
        | [a, b], _ =>
          walk_at "wp"
          refine wv (in_lsL hx (by omega)) ?_
          walk_at "wp"
          refine wv (law_below_eq (hall a (by simp)).nd _) ?_
          walk_at "wp"
          refine wif_of (fun e2 => ?_) (fun e2 => ?_)
          · walk_at "wp"
            refine wv (rows b (by simp)) ?_
            walk_at "wp"
            rw [isn]
            show some _ = some (PyData.bool (true && belowB 5 a && rowsB r b))
            rw [e2]; rfl
          · walk_at "wp"
            show some _ = some (PyData.bool (true && belowB 5 a && rowsB r b))
            rw [e2]; rfl
      · walk_at "wp"
        have : ¬ xs.length = 2 := fun z => l5 (by rw [List.length_cons, z]; rfl)
        rw [z, decide_eq_false this]
        simp only [Bool.and_false, Bool.false_and]
        rfl
    have z : rowV f r (.str w) xs = false := by
      simp only [rowV, silB, strEq, decide_eq_false w1, decide_eq_false w2, decide_eq_false w3, decide_eq_false w4, decide_eq_false w5, decide_eq_false w6]
      rfl
    refine wif_false ?_ ?_
    · simp only [strEq, decide_eq_false w1, decide_eq_false w2, decide_eq_false w3, decide_eq_false w4, decide_eq_false w5, decide_eq_false w6]
      rfl
    walk_at "wp"
    rw [z]; rfl
  | _ =>
    refine wif_false rfl ?_
    walk_at "wp"
    rfl
end K06

namespace K06
open PySem L2 Evl Pd Qt
local macro_rules | `(tactic| walk_at "wp2") => `(tactic| first
  | ((with_reducible refine wlen ?_ ?_); focus exact rfl) | ((with_reducible refine wcap ?_ ?_); focus exact Nat.le_of_ble_eq_true rfl)
  | ((with_reducible refine wv_add_tt ?_ ?_); focus (first | omega | (simp only [List.length_cons, List.length_nil, List.length_append, List.length_map]; omega))) | ((with_reducible refine wv_add_ll ?_ ?_); focus (first | omega | (simp only [List.length_cons, List.length_nil, List.length_append, List.length_map]; omega))) | ((with_reducible refine wv_mod ?_ ?_); focus (first | omega | (simp only [List.length_cons, List.length_nil, List.length_append, List.length_map]; omega)))
  | ((with_reducible refine wif_false ?_ ?_); focus decide +kernel) | ((with_reducible refine wif_true ?_ ?_); focus decide +kernel))
local macro_rules | `(tactic| walk_at "wp") => `(tactic| repeat (first | (with_reducible refine Stp.h ?_) | (with_reducible refine ws_seq ?_) | (with_reducible refine ws_if ?_) | walk_at "wp2"))
local macro_rules | `(tactic| walk_at "wq") => `(tactic| repeat (first | (with_reducible refine Stp.h ?_) | walk_at "wp2" | (with_reducible refine ws_seq (ws_asg ?_)) | (with_reducible refine ws_seq (ws_asgO ?_)) | (with_reducible refine ws_seq (ws_asgG ?_)) | (with_reducible refine ws_seq (ws_drop ?_)) | (with_reducible refine ws_seq (ws_par ?_)) | (with_reducible refine ws_seq (wi_app ?_))))

noncomputable def rb (f : Fr) (k : Nat) (d : PyData) : Bool := match F_is_row k [f.enc, d] with
  | some (.bool b) => b
  | _ => false
theorem rb_of {f : Fr} {k : Nat} {d : PyData} {b : Bool} (h : F_is_row k [f.enc, d] = some (.bool b)) : rb f k d = b := by unfold rb; rw [h]
theorem row_not {f : Fr} {k : Nat} {d : PyData} (nd : noDict d = true) (h : ∀ x xs, d ≠ .tuple (x :: xs)) : F_is_row (k + 1) [f.enc, d] = some (.bool false) := by
  rw [F_is_row]
  refine denQ_of ?_
  show Ws (den_is_row _ _ _ [.fro f.enc, .fro d]) _
  unfold den_is_row
  cases d with
  | tuple ds =>
    cases ds with
    | nil => walk_at "wp"; rfl
    | cons x xs => exact absurd rfl (h x xs)
  | dict _ => cases nd
  | _ => walk_at "wp"; rfl
theorem lrow_not {f : Fr} {k : Nat} {d : PyData} (nd : noDict d = true) (h : ∀ x xs, d ≠ .tuple (x :: xs)) : F__law_is_row (k + 1) [f.enc, d] = some (.bool false) := by
  rw [F__law_is_row]
  refine denQ_of ?_
  show Ws (den__law_is_row _ _ _ [.fro f.enc, .fro d]) _
  unfold den__law_is_row
  cases d with
  | tuple ds =>
    cases ds with
    | nil =>
      walk_at "wp"
      refine wv (eq_nil (n := 1) (Lay.tup fun x hx => by cases hx) (by decide)) ?_
      walk_at "wp"
      rfl
    | cons x xs => exact absurd rfl (h x xs)
  | dict _ => cases nd
  | _ => walk_at "wp"; rfl
theorem rows_both {L : Nat} (hL : L ≤ 1001) {f : Fr} : ∀ (k n : Nat) (d : PyData), n ≤ 2 * k + 1 → n ≤ 60 → Sz L n d →
    F_is_row (k + 1) [f.enc, d] = some (.bool (rb f (k + 1) d)) ∧ F__law_is_row (k + 1) [f.enc, d] = some (.bool (rb f (k + 1) d)) := by
  intro k
  induction k with
  | zero =>
    intro n d hn hn2 h
    by_cases hd : ∃ x xs, d = .tuple (x :: xs)
    · obtain ⟨x, xs, rfl⟩ := hd
      obtain ⟨n', rfl, hl, hall⟩ := h.tup
      have n0 : n' = 0 := by omega
      subst n0
      have no : ∀ y ∈ xs, ∀ ds, y = .tuple ds → False := fun y hy ds e => by
        have := hall y (List.mem_cons_of_mem _ hy)
        rw [e, Sz] at this
        exact this
      have e1 := is_row_any hL (f := f) (r := fun _ => false) (fr := F_is_row 0) h hn2 (fun y hy ds e => (no y hy ds e).elim) rfl
      have e2 := law_row_any hL (f := f) (r := fun _ => false) (fr := F__law_is_row 0) h hn2 (fun y hy ds e => (no y hy ds e).elim) rfl
      rw [rb_of e1]
      exact ⟨e1, e2⟩
    · have e1 := row_not (f := f) (k := 0) h.nd fun x xs e => hd ⟨x, xs, e⟩
      have e2 := lrow_not (f := f) (k := 0) h.nd fun x xs e => hd ⟨x, xs, e⟩
      rw [rb_of e1]
      exact ⟨e1, e2⟩
  | succ k ih =>
    intro n d hn hn2 h
    by_cases hd : ∃ x xs, d = .tuple (x :: xs)
    · obtain ⟨x, xs, rfl⟩ := hd
      obtain ⟨n', rfl, hl, hall⟩ := h.tup
      have sub : ∀ y ∈ xs, ∀ ds, y = .tuple ds → ∀ z ∈ ds, F_is_row (k + 1) [f.enc, z] = some (.bool (rb f (k + 1) z)) ∧ F__law_is_row (k + 1) [f.enc, z] = some (.bool (rb f (k + 1) z)) := fun y hy ds e z hz => by
        have hy' := hall y (List.mem_cons_of_mem _ hy)
        rw [e] at hy'
        obtain ⟨n2, rfl, _, hall2⟩ := hy'.tup
        exact ih n2 z (by omega) (by omega) (hall2 z hz)
      have e1 := is_row_any hL (f := f) (r := rb f (k + 1)) (fr := F_is_row (k + 1)) h hn2 (fun y hy ds e z hz => (sub y hy ds e z hz).1) rfl
      have e2 := law_row_any hL (f := f) (r := rb f (k + 1)) (fr := F__law_is_row (k + 1)) h hn2 (fun y hy ds e z hz => (sub y hy ds e z hz).2) rfl
      rw [rb_of e1]
      exact ⟨e1, e2⟩
    · have e1 := row_not (f := f) (k := k + 1) h.nd fun x xs e => hd ⟨x, xs, e⟩
      have e2 := lrow_not (f := f) (k := k + 1) h.nd fun x xs e => hd ⟨x, xs, e⟩
      rw [rb_of e1]
      exact ⟨e1, e2⟩
def dueC (c : Nat) (v : PyData) : Option Int → Rs
  | none => .ok v
  | some i => .er c (.int i)
theorem need_program_any {L n : Nat} (hL : L ≤ 1001) {f : Fr} (hf : f.Ok) {v : PyData} (h : Sz L n v) (hn : n ≤ 16) : F_need_program [f.enc, v] = some (dueC 1 v (dueD (rb f 8) v)) := by
  refine denE_of ?_
  show Ws (den_need_program _ _ [.fro f.enc, .fro v, .no, .no]) _
  unfold den_need_program
  walk_at "wp"
  refine wr (need_frame_N hf) ?_
  walk_at "wp"
  cases v with
  | tuple ds =>
    obtain ⟨k, rfl, hl, hall⟩ := h.tup
    walk_at "wp"
    rw [enumD_E]
    refine wls_ind encE (fun l ρ => (∀ p ∈ l, p.1 ∈ ds) ∧ dueD (rb f 8) (.tuple ds) = ((badOf (rb f 8) l).head?).map (fun p => (p.2 : Int)) ∧ ∃ s2 s3, ρ = [.fro f.enc, .fro (.tuple ds), s2, s3]) ?_ ?_ _ _ ⟨fun p hp => mem_zip hp, rfl, _, _, rfl⟩
    · rintro p l _ ⟨hm, e, s2, s3, rfl⟩
      have r1 := (rows_both hL (f := f) 7 k p.1 (by omega) (by omega) (hall p.1 (hm p List.mem_cons_self))).1
      walk_at "wp"
      refine wv r1 ?_
      walk_at "wp"
      refine wif_of (fun hb => ?_) (fun hb => ?_)
      · walk_at "wp"
        refine ⟨fun q hq => hm q (List.mem_cons_of_mem _ hq), ?_, _, _, rfl⟩
        rw [e, badOf, List.filter_cons, if_neg (by rw [hb]; decide)]
        rfl
      · walk_at "wp"
        rw [e, badOf, List.filter_cons, if_pos (by rw [hb]; rfl)]
        rfl
    · rintro _ ⟨_, e, s2, s3, rfl⟩
      walk_at "wp"
      rw [e]; rfl
  | dict _ => cases h.nd
  | _ => walk_at "wp"; rfl
theorem need_datum_any {L n : Nat} (hL : L ≤ 1001) {f : Fr} (hf : f.Ok) {v : PyData} (h : Sz L n v) : F_need_datum [f.enc, v] = some (dueC 2 v (if (tupN ((f.regs : Int) + f.cells) v && allB (f.size : Nat) v) = true then none else some (-1))) := by
  have hfe : f.enc = .tuple [N f.size, N f.regs, N f.cells, .tuple (f.tabs.map T), N f.deep] := rfl
  have e2 : F_spots_many [f.enc] = some (.int ((f.regs : Int) + f.cells)) := by
    simp [F_spots_many, den_spots_many, Fr.enc, listM, varM, letM, conM, opM, unM, caM, nilM, consM, tupM, lstM, boolM, andB, orB, notB, andV, orV, notV, ifM, seqS, nextS, breakS, contS, asgS, asgO, dropS, retS, retO, retN, ifS, appS, nameG, seqG, tupG, listI, tupI, seqI, enumI, callM, callE, callN, callB, raiseS, setS, isi1M, isi2M, truB, chainM, noM, partM, slM, lenOM, ixOM, tupOM, toldM, kwM, kwE, enumTI, enumSI, enumOI, yesB, opN, caN, asgG, lrgM, parS, consG, nilG, asgG, extS, seqD, bnd, bndS, bnd0, rho0, rhoB, denQ, denE, denN, denB, outQ, outE, outN, outB, i2, b2, addP, subP, modP, powP, ltP, leP, gtP, geP, isP, isNotP, isNoneP, ixP, negP, lenP, absP, intP, tupleP, listP, at?, truD]
  have e3 : F_is_datum [f.enc, v] = some (.bool (tupN ((f.regs : Int) + f.cells) v && allB (f.size : Nat) v)) := by
    refine denQ_of ?_
    show Ws (den_is_datum _ _ [.fro f.enc, .fro v]) _
    unfold den_is_datum
    rw [hfe] at e2 ⊢
    walk_at "wp"
    refine wv e2 ?_
    walk_at "wp"
    refine wv (row_of_values_eq h _ _) ?_
    walk_at "wp"
    rfl
  refine denE_of ?_
  show Ws (den_need_datum _ _ [.fro f.enc, .fro v]) _
  unfold den_need_datum
  walk_at "wp"
  refine wr (need_frame_N hf) ?_
  walk_at "wp"
  refine wv e3 ?_
  walk_at "wp"
  refine wif_of (fun hb => ?_) (fun hb => ?_)
  · walk_at "wp"
    rw [hb]; rfl
  · walk_at "wp"
    rw [hb]; rfl
end K06

namespace K06
open PySem L2 Evl Pd Qt
local macro_rules | `(tactic| walk_at "wp2") => `(tactic| first
  | ((with_reducible refine wlen ?_ ?_); focus exact rfl) | ((with_reducible refine wcap ?_ ?_); focus exact Nat.le_of_ble_eq_true rfl)
  | ((with_reducible refine wv_add_tt ?_ ?_); focus (first | omega | (simp only [List.length_cons, List.length_nil, List.length_append, List.length_map]; omega))) | ((with_reducible refine wv_add_ll ?_ ?_); focus (first | omega | (simp only [List.length_cons, List.length_nil, List.length_append, List.length_map]; omega))) | ((with_reducible refine wv_mod ?_ ?_); focus (first | omega | (simp only [List.length_cons, List.length_nil, List.length_append, List.length_map]; omega)))
  | ((with_reducible refine wif_false ?_ ?_); focus decide +kernel) | ((with_reducible refine wif_true ?_ ?_); focus decide +kernel))
local macro_rules | `(tactic| walk_at "wp") => `(tactic| repeat (first | (with_reducible refine Stp.h ?_) | (with_reducible refine ws_seq ?_) | (with_reducible refine ws_if ?_) | walk_at "wp2"))
local macro_rules | `(tactic| walk_at "wq") => `(tactic| repeat (first | (with_reducible refine Stp.h ?_) | walk_at "wp2" | (with_reducible refine ws_seq (ws_asg ?_)) | (with_reducible refine ws_seq (ws_asgO ?_)) | (with_reducible refine ws_seq (ws_asgG ?_)) | (with_reducible refine ws_seq (ws_drop ?_)) | (with_reducible refine ws_seq (ws_par ?_)) | (with_reducible refine ws_seq (wi_app ?_))))

/-! ### all data -/
def allD (s : Nat) : Nat → List (List Nat)
  | 0 => [[]]
  | k + 1 => (allD s k).flatMap fun d => (List.range s).map fun v => d ++ [v]
theorem allD_len (s : Nat) : ∀ k, (allD s k).length = s ^ k
  | 0 => rfl
  | k + 1 => by
    have e : ∀ l : List (List Nat), (l.flatMap fun d => (List.range s).map fun v => d ++ [v]).length = l.length * s := fun l => by
      induction l with
      | nil => simp
      | cons a l ih => rw [List.flatMap_cons, List.length_append, ih, List.length_map, List.length_range, List.length_cons, Nat.succ_mul]; omega
    rw [allD, e, allD_len s k, Nat.pow_succ]
theorem allD_mem (s : Nat) : ∀ k, ∀ d ∈ allD s k, d.length = k
  | 0, d, h => by
    rw [allD, List.mem_singleton] at h
    rw [h]; rfl
  | k + 1, d, h => by
    rw [allD] at h
    obtain ⟨e, he, h2⟩ := List.mem_flatMap.mp h
    obtain ⟨v, _, rfl⟩ := List.mem_map.mp h2
    rw [List.length_append, allD_mem s k e he]; rfl
theorem pow_le {s k : Nat} (hs : s ≤ 3) (hk : k ≤ 8) : s ^ k ≤ 6561 := Nat.le_trans (Nat.pow_le_pow_left hs k) (Nat.le_trans (Nat.pow_le_pow_right (by decide) hk) (by decide))
theorem T_app (d : List Nat) (v : Nat) : (d.map N) ++ [N v] = (d ++ [v]).map N := by rw [List.map_append]; rfl
theorem allD_map (s k : Nat) : ((allD s k).flatMap fun d => (List.range s).map fun v => T (d ++ [v])) = (allD s (k + 1)).map T := by
  rw [allD, List.map_flatMap]
  congr 1
  funext d
  rw [List.map_map]
  rfl
section
variable {f : Fr}
theorem fr0 : ixP f.enc (.int 0) = some (N f.size) := ix0
theorem fr1 : ixP f.enc (.int 1) = some (N f.regs) := ix1
theorem fr2 : ixP f.enc (.int 2) = some (N f.cells) := ix2
theorem fr3 : ixP f.enc (.int 3) = some (.tuple (f.tabs.map T)) := ix3
end
theorem spots_N (f : Fr) : F_spots_many [f.enc] = some (N (f.regs + f.cells)) := by
  simp [F_spots_many, den_spots_many, Fr.enc, listM, varM, letM, conM, opM, unM, caM, nilM, consM, tupM, lstM, boolM, andB, orB, notB, andV, orV, notV, ifM, seqS, nextS, breakS, contS, asgS, asgO, dropS, retS, retO, retN, ifS, appS, nameG, seqG, tupG, listI, tupI, seqI, enumI, callM, callE, callN, callB, raiseS, setS, isi1M, isi2M, truB, chainM, noM, partM, slM, lenOM, ixOM, tupOM, toldM, kwM, kwE, enumTI, enumSI, enumOI, yesB, opN, caN, asgG, lrgM, parS, consG, nilG, asgG, extS, seqD, bnd, bndS, bnd0, rho0, rhoB, denQ, denE, denN, denB, outQ, outE, outN, outB, i2, b2, addP, subP, modP, powP, ltP, leP, gtP, geP, isP, isNotP, isNoneP, ixP, negP, lenP, absP, intP, tupleP, listP, at?, truD]
theorem all_data_N {f : Fr} (hf : f.Ok) : F_all_data [f.enc] = some (.ok (.tuple ((allD f.size (f.regs + f.cells)).map T))) := by
  have hs3 : f.size ≤ 3 := by rcases hf.size with z | z <;> omega
  have hk8 : f.regs + f.cells ≤ 8 := by have := hf.regs; rcases hf.cells with z | z <;> omega
  refine denE_of ?_
  show Ws (den_all_data _ _ [.fro f.enc, .no, .no, .no, .no]) _
  unfold den_all_data
  walk_at "wp"
  refine wr (need_frame_N hf) ?_
  walk_at "wp"
  refine wv (spots_N f) ?_
  walk_at "wp"
  refine wrng (by omega) ?_
  rw [rangeD_map]
  refine wls_inv (fun i : Nat => PyData.int (i : Int)) (fun pre post ρ => pre ++ post = List.range (f.regs + f.cells) ∧ ∃ s2 s3 s4, ρ = [.fro f.enc, .fro (.list ((allD f.size pre.length).map T)), s2, s3, s4]) ?_ ?_ _ [] _ ⟨rfl, _, _, _, rfl⟩
  · rintro pre i post _ ⟨hp, s2, s3, s4, rfl⟩
    have hpl : pre.length < f.regs + f.cells := by
      have := congrArg List.length hp
      rw [List.length_append, List.length_cons, List.length_range] at this
      omega
    have ll := pow_le hs3 (show pre.length + 1 ≤ 8 by omega)
    walk_at "wp"
    refine wl2_gen T (fun v : Nat => PyData.int (v : Int)) (fun _ => List.range f.size) (fun d v => T (d ++ [v])) (allD f.size pre.length) ?_ (fun d hd => ?_) ?_
    · have e := allD_len f.size (pre.length + 1)
      rw [allD] at e
      have : ((allD f.size pre.length).flatMap fun _ => List.range f.size).length = f.size ^ (pre.length + 1) := by
        rw [← e]
        generalize allD f.size pre.length = l
        induction l with
        | nil => rfl
        | cons a l ih => rw [List.flatMap_cons, List.flatMap_cons, List.length_append, List.length_append, ih, List.length_map]
      omega
    · have dl := allD_mem f.size _ d hd
      walk_at "wp"
      refine wv fr0 ?_
      walk_at "wp"
      refine wrng (by omega) ?_
      rw [rangeD_map]
      refine ⟨rfl, ?_⟩
      walk_at "wp"
      refine ⟨rfl, fun v hv => ?_⟩
      walk_at "wp"
      rw [T_app]
      exact ⟨rfl, rfl⟩
    · walk_at "wp"
      rw [allD_map]
      rw [List.length_append, List.length_singleton]
      exact ⟨by rw [List.append_assoc]; exact hp, _, _, _, rfl⟩
  · rintro pre _ ⟨hp, s2, s3, s4, rfl⟩
    have hpl : pre.length = f.regs + f.cells := by
      have := congrArg List.length hp
      rw [List.length_append, List.length_nil, List.length_range] at this
      omega
    walk_at "wp"
    rw [hpl]; rfl
/-! ### what the law draws is of a small size -/
theorem sz_N {m n : Nat} (l : List Nat) (h : l.length ≤ m) : Sz m (n + 1) (T l) := sz_tup (by rw [List.length_map]; exact h) fun x hx => by
  obtain ⟨v, _, rfl⟩ := List.mem_map.mp hx
  exact sz_int
theorem sz_fr {f : Fr} (hf : f.Ok) : Sz 900 3 f.enc := by
  refine sz_tup (by simp) fun x hx => ?_
  simp only [List.mem_cons, List.not_mem_nil, or_false] at hx
  rcases hx with rfl | rfl | rfl | rfl | rfl
  · exact sz_int
  · exact sz_int
  · exact sz_int
  · refine sz_tup (by rw [List.length_map]; have := hf.many; omega) fun t ht => ?_
    obtain ⟨u, hu, rfl⟩ := List.mem_map.mp ht
    have := (hf.tabs u hu).1
    exact sz_N u (by rcases hf.size with z | z <;> rw [z] at this <;> omega)
  · exact sz_int
theorem sz_row {f : Fr} : ∀ (n : Nat) (x : Row), okB f 3 n x → Sz 900 (2 * n + 1) x.enc
  | n, .op t d a b, _ => by
    rw [enc_op]
    refine sz_tup (by simp) fun x hx => ?_
    simp only [List.mem_cons, List.not_mem_nil, or_false] at hx
    rcases hx with rfl | rfl | rfl | rfl | rfl <;> first | exact sz_int | exact str_sz.1
  | n, .load d a, _ => by
    rw [enc_load]
    refine sz_tup (by simp) fun x hx => ?_
    simp only [List.mem_cons, List.not_mem_nil, or_false] at hx
    rcases hx with rfl | rfl | rfl <;> first | exact sz_int | exact str_sz.2.1
  | n, .store d a, _ => by
    rw [enc_store]
    refine sz_tup (by simp) fun x hx => ?_
    simp only [List.mem_cons, List.not_mem_nil, or_false] at hx
    rcases hx with rfl | rfl | rfl <;> first | exact sz_int | exact str_sz.2.2.1
  | n, .fence, _ => by
    rw [enc_fence]
    refine sz_tup (by simp) fun x hx => ?_
    rw [List.mem_singleton.mp hx]
    exact str_sz.2.2.2.1
  | n + 1, .fork r l m, h => by
    rw [okB] at h
    rw [enc_fork]
    have sub : ∀ l : List Row, l.length ≤ 3 → (∀ x ∈ l, okB f 3 n x) → Sz 900 (2 * n + 2) (E l) := fun l hl hx => sz_tup (by rw [encs_length]; omega) fun y hy => by
      rw [encs_map] at hy
      obtain ⟨x, hx', rfl⟩ := List.mem_map.mp hy
      exact sz_row n x (hx x hx')
    refine sz_tup (by simp) fun x hx => ?_
    simp only [List.mem_cons, List.not_mem_nil, or_false] at hx
    rcases hx with rfl | rfl | rfl | rfl
    · exact str_sz.2.2.2.2.1
    · exact sz_int
    · exact sub l h.2.1.1 h.2.1.2
    · exact sub m h.2.2.1 h.2.2.2
  | n + 1, .loop k l, h => by
    rw [okB] at h
    rw [enc_loop]
    refine sz_tup (by simp) fun x hx => ?_
    simp only [List.mem_cons, List.not_mem_nil, or_false] at hx
    rcases hx with rfl | rfl | rfl
    · exact str_sz.2.2.2.2.2.1
    · exact sz_int
    · exact sz_tup (by rw [encs_length]; omega) fun y hy => by
        rw [encs_map] at hy
        obtain ⟨x, hx', rfl⟩ := List.mem_map.mp hy
        exact sz_row n x (h.2.2 x hx')
  | 0, .fork _ _ _, h => by rw [okB] at h; exact h.elim
  | 0, .loop _ _, h => by rw [okB] at h; exact h.elim
theorem sz_rows {f : Fr} {n : Nat} {rows : List Row} (hl : rows.length ≤ 900) (h : ∀ x ∈ rows, okB f 3 n x) : Sz 900 (2 * n + 2) (E rows) := sz_tup (by rw [encs_length]; omega) fun y hy => by
  rw [encs_map] at hy
  obtain ⟨x, hx', rfl⟩ := List.mem_map.mp hy
  exact sz_row n x (h x hx')
end K06

namespace K06
open PySem L2 Evl Pd Qt
local macro_rules | `(tactic| walk_at "wp2") => `(tactic| first
  | ((with_reducible refine wlen ?_ ?_); focus exact rfl) | ((with_reducible refine wcap ?_ ?_); focus exact Nat.le_of_ble_eq_true rfl)
  | ((with_reducible refine wv_add_tt ?_ ?_); focus (first | omega | (simp only [List.length_cons, List.length_nil, List.length_append, List.length_map]; omega))) | ((with_reducible refine wv_add_ll ?_ ?_); focus (first | omega | (simp only [List.length_cons, List.length_nil, List.length_append, List.length_map]; omega))) | ((with_reducible refine wv_mod ?_ ?_); focus (first | omega | (simp only [List.length_cons, List.length_nil, List.length_append, List.length_map]; omega)))
  | ((with_reducible refine wif_false ?_ ?_); focus decide +kernel) | ((with_reducible refine wif_true ?_ ?_); focus decide +kernel))
local macro_rules | `(tactic| walk_at "wp") => `(tactic| repeat (first | (with_reducible refine Stp.h ?_) | (with_reducible refine ws_seq ?_) | (with_reducible refine ws_if ?_) | walk_at "wp2"))
local macro_rules | `(tactic| walk_at "wq") => `(tactic| repeat (first | (with_reducible refine Stp.h ?_) | walk_at "wp2" | (with_reducible refine ws_seq (ws_asg ?_)) | (with_reducible refine ws_seq (ws_asgO ?_)) | (with_reducible refine ws_seq (ws_asgG ?_)) | (with_reducible refine ws_seq (ws_drop ?_)) | (with_reducible refine ws_seq (ws_par ?_)) | (with_reducible refine ws_seq (wi_app ?_))))

theorem unrolled_all {f : Fr} (hf : f.Ok) {n : Nat} {rows : List Row} (h : okRs f n rows) (hft : fits n rows) (hn : n < 8) : F_unrolled [f.enc, E rows] = some (.ok (E (unrs rows))) := by
  refine denE_of ?_
  show Ws (den_unrolled _ _ [.fro f.enc, .fro (E rows)]) _
  unfold den_unrolled
  walk_at "wp"
  refine wr (need_program_N hf h hn) ?_
  walk_at "wp"
  refine wv (unrolled_N n rows hft 8 hn) ?_
  walk_at "wp"
  rfl
theorem program_er {v w d : PyData} {c : Nat} (h : F_need_frame [v] = some (.er c d)) : F_need_program [v, w] = some (.er c d) := by
  refine denE_of ?_
  show Ws (den_need_program _ _ [.fro v, .fro w, .no, .no]) _
  unfold den_need_program
  walk_at "wp"
  refine wr_er h ?_
  walk_at "wp"
  rfl
theorem all_data_er {v d : PyData} {c : Nat} (h : F_need_frame [v] = some (.er c d)) : F_all_data [v] = some (.er c d) := by
  refine denE_of ?_
  show Ws (den_all_data _ _ [.fro v, .no, .no, .no, .no]) _
  unfold den_all_data
  walk_at "wp"
  refine wr_er h ?_
  walk_at "wp"
  rfl
theorem unrolled_er {v w d : PyData} {c : Nat} (h : F_need_program [v, w] = some (.er c d)) : F_unrolled [v, w] = some (.er c d) := by
  refine denE_of ?_
  show Ws (den_unrolled _ _ [.fro v, .fro w]) _
  unfold den_unrolled
  walk_at "wp"
  refine wr_er h ?_
  walk_at "wp"
  rfl
theorem frame_none : F_need_frame [.none] = some (.er 0 (.int (-1))) := need_frame_any (L := 900) (n := 0) (by decide) sz_none (by decide)
theorem frame_4 {f : Fr} (hf : f.Ok) : F_need_frame [.tuple (cutD [N f.size, N f.regs, N f.cells, .tuple (f.tabs.map T), N f.deep] none (some 4))] = some (.er 0 (.int (-1))) := by
  have e : cutD [N f.size, N f.regs, N f.cells, .tuple (f.tabs.map T), N f.deep] none (some 4) = [N f.size, N f.regs, N f.cells, .tuple (f.tabs.map T)] := cut_take _ 4
  rw [e]
  have hz : Sz 900 3 (.tuple [N f.size, N f.regs, N f.cells, .tuple (f.tabs.map T)]) := by
    obtain ⟨k, hk, _, hall⟩ := (sz_fr hf).tup
    have hk : k = 2 := by omega
    subst hk
    exact sz_tup (by simp) fun x hx => hall x (by simp only [List.mem_cons, List.not_mem_nil, or_false] at hx ⊢; rcases hx with h | h | h | h <;> simp [h])
  exact need_frame_any (by decide) hz (by decide)
theorem lay_is {n : Nat} {w : Str} {d : PyData} (hw : PyData.strOk w = true) (h : Lay n d) : Lay (n + 1) (.tuple [.str w, d]) := Lay.tup fun z hz => by
  simp only [List.mem_cons, List.not_mem_nil, or_false] at hz
  rcases hz with rfl | rfl
  · exact (Lay.str hw).mono (by omega)
  · exact h
theorem lay_T' (d : List Nat) : Lay 1 (T d) := Lay.tup fun z hz => by
  obtain ⟨v, _, rfl⟩ := List.mem_map.mp hz
  exact Lay.int
abbrev f0 : Fr := ⟨2, 1, 2, [], 1⟩
theorem f0_ok : f0.Ok := ⟨.inl rfl, ⟨by decide, by decide⟩, .inr rfl, by decide, (fun t ht => by cases ht), by decide⟩
abbrev rows0 : List Row := [.loop 2 [.fence], .loop 0 [.fence]]
theorem rows0_ok : okRs f0 1 rows0 := by
  refine ⟨by decide, fun x hx => ?_⟩
  simp only [List.mem_cons, List.not_mem_nil, or_false] at hx
  have fo : ∀ x ∈ [Row.fence], okR f0 0 x := fun x hx => by rw [List.mem_singleton.mp hx, okR]; trivial
  rcases hx with rfl | rfl
  · rw [okR]; exact ⟨by decide, by decide, fo⟩
  · rw [okR]; exact ⟨by decide, by decide, fo⟩
theorem rows0_unr : unrs rows0 = [.fence, .fence] := by simp [unrs, unr]
theorem rows0_fit : fits 1 rows0 := by
  refine ⟨fun x hx => ?_, by rw [rows0_unr]; decide⟩
  simp only [List.mem_cons, List.not_mem_nil, or_false] at hx
  have fo : ∀ x ∈ [Row.fence], fitR 0 x := fun x hx => by rw [List.mem_singleton.mp hx, fitR]; trivial
  rcases hx with rfl | rfl
  · rw [fitR]
    exact ⟨by decide, fo, by simp [unrs, unr]⟩
  · rw [fitR]
    exact ⟨by decide, fo, by simp [unrs, unr]⟩
theorem E0 : (PyData.tuple [.tuple [.str "loop", .int 2, .tuple [.tuple [.str "fence"]]], .tuple [.str "loop", .int 0, .tuple [.tuple [.str "fence"]]]]) = E rows0 := by
  simp [E, encs, enc_loop, enc_fence]
theorem E2 : E (unrs rows0) = .tuple [.tuple [.str "fence"], .tuple [.str "fence"]] := by
  rw [rows0_unr]
  simp [E, encs, enc_fence]
theorem lay_F2 : Lay 2 (.tuple [.tuple [.str "fence"], .tuple [.str "fence"]]) := Lay.tup fun z hz => by
  simp only [List.mem_cons, List.not_mem_nil, or_false] at hz
  rcases hz with rfl | rfl <;> exact Lay.tup fun y hy => by rw [List.mem_singleton.mp hy]; exact (Lay.str (by decide +kernel)).mono (by omega)
end K06

namespace K06
open PySem L2 Evl Pd Qt
local macro_rules | `(tactic| walk_at "wp2") => `(tactic| first
  | ((with_reducible refine wlen ?_ ?_); focus exact rfl) | ((with_reducible refine wcap ?_ ?_); focus exact Nat.le_of_ble_eq_true rfl)
  | ((with_reducible refine wv_add_tt ?_ ?_); focus (first | omega | (simp only [List.length_cons, List.length_nil, List.length_append, List.length_map]; omega))) | ((with_reducible refine wv_add_ll ?_ ?_); focus (first | omega | (simp only [List.length_cons, List.length_nil, List.length_append, List.length_map]; omega))) | ((with_reducible refine wv_mod ?_ ?_); focus (first | omega | (simp only [List.length_cons, List.length_nil, List.length_append, List.length_map]; omega)))
  | ((with_reducible refine wif_false ?_ ?_); focus decide +kernel) | ((with_reducible refine wif_true ?_ ?_); focus decide +kernel))
local macro_rules | `(tactic| walk_at "wp") => `(tactic| repeat (first | (with_reducible refine Stp.h ?_) | (with_reducible refine ws_seq ?_) | (with_reducible refine ws_if ?_) | walk_at "wp2"))
local macro_rules | `(tactic| walk_at "wq") => `(tactic| repeat (first | (with_reducible refine Stp.h ?_) | walk_at "wp2" | (with_reducible refine ws_seq (ws_asg ?_)) | (with_reducible refine ws_seq (ws_asgO ?_)) | (with_reducible refine ws_seq (ws_asgG ?_)) | (with_reducible refine ws_seq (ws_drop ?_)) | (with_reducible refine ws_seq (ws_par ?_)) | (with_reducible refine ws_seq (wi_app ?_))))

theorem rows_wv {q : Nat} (hq : 2 < q) (f : Fr) (hf : f.Ok) (ht : f.tabs ≠ []) (j : Nat) (hj : j ≤ 5) (m : Nat) (bd : List PyData) (hb : Box m bd) (hm : m + 1600 < 100000) (P : PyData × List PyData → Prop)
    (k : ∀ rows bd', Box (m + 1600) bd' → rows.length = j → (∀ x ∈ rows, okB f 3 2 x) → P (E rows, bd')) : Wv (F__law_rows q bd [f.enc, N j, .int 2]) P := by
  have h := rows_2 hf ht (k := q) hq (many := j) hj hb hm
  generalize F__law_rows q bd [f.enc, N j, .int 2] = z at *
  obtain ⟨rows, bd3, er, hb3, hrl, hro⟩ := h
  exact wv er (k rows bd3 hb3 hrl hro)
theorem box_wv (ns : List Int) (k : Nat) (hk : k < 100) (P : List PyData → Prop) (q : ∀ bd, Box 0 bd → P bd) : Wv (F__law_box [scrD ns, .int (k : Int)]) P := by
  have h := box_ok ns (k : Int) (by omega) (by omega)
  generalize F__law_box [scrD ns, .int (k : Int)] = z at *
  obtain ⟨bd, eb, hb⟩ := h
  exact wv eb (q bd hb)
theorem frame_wv (m : Nat) (bd : List PyData) (hb : Box m bd) (hm : m + 100 < 100000) (P : PyData × List PyData → Prop) (q : ∀ (f : Fr) bd', Box (m + 100) bd' → f.Ok → f.tabs ≠ [] → P (f.enc, bd')) : Wv (F__law_frame bd []) P := by
  have h := frame_N hb hm
  generalize F__law_frame bd [] = z at *
  obtain ⟨f, bd1, ef, hb1, hf, htf⟩ := h
  exact wv ef (q f bd1 hb1 hf htf)
theorem datum_wv (f : Fr) (hf : f.Ok) (m : Nat) (bd : List PyData) (hb : Box m bd) (hm : m + 20 < 100000) (P : PyData × List PyData → Prop) (q : ∀ d bd', Box (m + 20) bd' → okD f d → P (T d, bd')) : Wv (F__law_datum bd [f.enc]) P := by
  have h := datum_N hf hb hm
  generalize F__law_datum bd [f.enc] = z at *
  obtain ⟨d, bd1, ef, hb1, hd⟩ := h
  exact wv ef (q d bd1 hb1 hd)
theorem take_wv' (m : Nat) (bd : List PyData) (hb : Box m bd) (hm : m < 100000) (many : Int) (h1 : 0 < many) (h2 : many < 1000) (P : PyData × List PyData → Prop) (k : ∀ (d : Nat) (bd' : List PyData), Box (m + 1) bd' → (d : Int) < many → P (N d, bd')) : Wv (F__law_take bd [.int many]) P :=
  take_wv hb hm h1 (by omega) k
theorem bent_wv {fu : Nat} (dep n : Nat) (v : PyData) (bd : List PyData) (m : Nat) (hk : dep < fu) (hd6 : dep ≤ 9) (hv : Sz 900 n v) (hn : n ≤ 60) (hb : Box m bd) (hm : m + 30 < 100000) (z : Int) (hz : z = (dep : Int)) (P : PyData × List PyData → Prop) (q : ∀ d bd', Box (m + 20) bd' → Sz 901 n d → P (d, bd')) : Wv (F__law_bent fu bd [v, .int z]) P := by
  subst hz
  have h := bent_ok (by decide) fu dep n v bd m hk hv hn hb (by omega)
  generalize F__law_bent fu bd [v, N dep] = z at *
  obtain ⟨r, er, hb1, hd⟩ := wv_of h
  exact wv er (q r.1 r.2 (hb1.mono (by omega)) hd)
theorem law_due_eq (L n : Nat) (hL : L ≤ 1001) (f : Fr) (v : PyData) (h : Sz L n v) (hn : n ≤ 16) : F__law_due 8 [f.enc, v] = some (dueP (dueD (rb f 8) v)) :=
  law_due_any hL h fun ds e x hx => by
    rw [e] at h
    obtain ⟨k, rfl, _, hall⟩ := h.tup
    exact (rows_both hL 7 k x (by omega) (by omega) (hall x hx)).2
theorem lay_E {n : Nat} {l : List Row} (h : ∀ y ∈ l, Lay n y.enc) : Lay (n + 1) (E l) := Lay.tup fun z hz => by
  rw [encs_map] at hz
  obtain ⟨y, hy, rfl⟩ := List.mem_map.mp hz
  exact h y hy
theorem mem_unrs {y : Row} : ∀ {l : List Row}, y ∈ unrs l → ∃ x ∈ l, y ∈ unr x
  | [], h => by rw [unrs] at h; cases h
  | x :: l, h => by
    rw [unrs] at h
    rcases List.mem_append.mp h with h | h
    · exact ⟨x, List.mem_cons_self, h⟩
    · obtain ⟨z, hz, h2⟩ := mem_unrs h
      exact ⟨z, List.mem_cons_of_mem _ hz, h2⟩
theorem lay_unr {f : Fr} : ∀ (n : Nat) (x : Row), okB f 3 n x → ∀ y ∈ unr x, Lay (2 * n + 1) y.enc
  | n, .op t d a b, h, y, hy => by rw [unr, List.mem_singleton] at hy; rw [hy]; exact (sz_row n _ h).lay
  | n, .load d a, h, y, hy => by rw [unr, List.mem_singleton] at hy; rw [hy]; exact (sz_row n _ h).lay
  | n, .store d a, h, y, hy => by rw [unr, List.mem_singleton] at hy; rw [hy]; exact (sz_row n _ h).lay
  | n, .fence, h, y, hy => by rw [unr, List.mem_singleton] at hy; rw [hy]; exact (sz_row n _ h).lay
  | n + 1, .fork r l m, h, y, hy => by
    rw [okB] at h
    rw [unr, List.mem_singleton] at hy
    rw [hy, enc_fork]
    have sub : ∀ l : List Row, (∀ x ∈ l, okB f 3 n x) → Lay (2 * n + 2) (E (unrs l)) := fun l hl => lay_E fun y hy => by
      obtain ⟨x, hx, h2⟩ := mem_unrs hy
      exact lay_unr n x (hl x hx) y h2
    refine (Lay.tup (n := 2 * n + 2) fun z hz => ?_)
    simp only [List.mem_cons, List.not_mem_nil, or_false] at hz
    rcases hz with rfl | rfl | rfl | rfl
    · exact (Lay.str (by decide +kernel)).mono (by omega)
    · exact Lay.int.mono (by omega)
    · exact sub l h.2.1.2
    · exact sub m h.2.2.2
  | n + 1, .loop k b, h, y, hy => by
    rw [okB] at h
    rw [unr] at hy
    have hy' : y ∈ unrs b := by
      obtain ⟨l, hl, h2⟩ := List.mem_flatten.mp hy
      rw [List.eq_of_mem_replicate hl] at h2
      exact h2
    obtain ⟨x, hx, h2⟩ := mem_unrs hy'
    exact (lay_unr n x (h.2.2 x hx) y h2).mono (by omega)
  | 0, .fork _ _ _, h, _, _ => by rw [okB] at h; exact h.elim
  | 0, .loop _ _, h, _, _ => by rw [okB] at h; exact h.elim
theorem hs0 (d : PyData) : hs__law_heard 0 d = some (.tuple [.str "frame", d]) := rfl
theorem hs1 (d : PyData) : hs__law_heard 1 d = some (.tuple [.str "program", d]) := rfl
theorem hs2 (d : PyData) : hs__law_heard 2 d = some (.tuple [.str "datum", d]) := rfl
theorem ne_is {n : Nat} {w : Str} {d : PyData} (hw : PyData.strOk w = true) (h : Lay n d) (hn : n ≤ 60) : neS (.tuple [.str w, d]) (.tuple [.str w, d]) = some (.bool false) := neS_self (lay_is hw h) (by omega)
theorem math (ns : List Int) (h1 : ns.length ≤ 63) (h2 : ∀ z ∈ ns, Builtin.Int.intBits z ≤ 1048576) : denQ 20 (den_law F__law_box F__law_frame F_unrolled (F__law_rows 8) F__law_datum (F__law_bent 8) F__law_frame_due (F__law_due 8) F__law_are_below F_all_data F__law_take F_need_frame F_need_program F_need_datum (F__law_plain 8)) [scrD ns] = some (.bool true) := by
  have a0 := all_data_N f0_ok
  have u0 := unrolled_all f0_ok rows0_ok rows0_fit (by decide)
  have q_box := @box_wv ns
  have q_frame := @frame_wv
  have q_take := @take_wv'
  have q_rows := @rows_wv 8 (by decide)
  have q_datum := @datum_wv
  have q_bent := @bent_wv 8
  have q_fr := @need_frame_any
  have q_frN := @need_frame_N
  have q_prN := @need_program_N
  have q_daN := @need_datum_N
  have q_lfr := @law_frame_any
  have q_pr := @need_program_any
  have q_due := @law_due_eq
  have q_da := @need_datum_any
  have q_lab := @law_are_below_eq
  have q_all := @all_data_N
  have q_unr := @unrolled_all
  have q_pl : ∀ (n : Nat) (rows : List Row), fits n rows → n < 8 → F__law_plain 8 [E rows] = some (.list (encs (unrs rows))) := fun n rows h hn => plain_N n rows h 8 hn
  have q_u1 : F_unrolled [.none, .none] = some (.er 0 (.int (-1))) := unrolled_er (program_er frame_none)
  have q_u2 : ∀ f : Fr, f.Ok → F_unrolled [f.enc, .none] = some (.er 1 (.int (-1))) := fun f hf => unrolled_er (need_program_any (L := 900) (n := 0) (by decide) hf sz_none (by decide))
  have q_ad : ∀ f : Fr, f.Ok → F_all_data [.tuple (cutD [N f.size, N f.regs, N f.cells, .tuple (f.tabs.map T), N f.deep] none (some 4))] = some (.er 0 (.int (-1))) := fun f hf => all_data_er (frame_4 hf)
  generalize F__law_box = lbox at *
  generalize F__law_frame = lframe at *
  generalize F_unrolled = unro at *
  generalize F__law_rows 8 = lrows at *
  generalize F__law_datum = ldatum at *
  generalize F__law_bent 8 = lbent at *
  generalize F__law_frame_due = lfdue at *
  generalize F__law_due 8 = ldue at *
  generalize F__law_are_below = lab at *
  generalize F_all_data = alld at *
  generalize F__law_take = ltake at *
  generalize F_need_frame = nfr at *
  generalize F_need_program = npr at *
  generalize F_need_datum = nda at *
  generalize F__law_plain 8 = lpl at *
  refine denQ_of ?_
  show Ws (den_law _ _ _ _ _ _ _ _ _ _ _ _ _ _ _ [.fro (scrD ns), .no, .no, .no, .no, .no, .no, .no, .no, .no, .no, .no, .no, .no, .no, .no, .no, .no, .no, .no]) _
  unfold den_law
  refine ws_cut (fun ρ => ρ = [.fro (scrD ns), .fro f0.enc, .no, .no, .no, .no, .no, .no, .no, .no, .no, .no, .no, .no, .no, .no, .no, .no, .no, .no]) (by walk_at "wp"; rfl) ?_
  rintro _ rfl
  refine ws_cut (fun ρ => ρ = [.fro (scrD ns), .fro f0.enc, .no, .no, .no, .no, .no, .no, .no, .no, .no, .no, .no, .no, .no, .no, .no, .no, .no, .no]) ?_ ?_
  · walk_at "wp"
    refine wr a0 ?_
    walk_at "wp"
    refine wv (y := T [0, 1, 1]) (ix_nat (i := 3) rfl) ?_
    walk_at "wp"
    refine wv (neS_self (d := T [0, 1, 1]) (lay_T' _) (by decide)) ?_
    walk_at "wp"
    refine wr a0 ?_
    walk_at "wp"
    rw [E0]
    refine wr u0 ?_
    walk_at "wp"
    rw [E2]
    refine wv (y := .tuple [.tuple [.str "fence"], .tuple [.str "fence"]]) rfl ?_
    walk_at "wp"
    refine wv (neS_self lay_F2 (by decide)) ?_
    walk_at "wp"
    rfl
  rintro _ rfl
  refine ws_cut (fun _ => True) ?_ (fun ρ _ => by walk_at "wp"; rfl)
  walk_at "wp"
  refine wrngL (r := 2) rfl ?_ ?_
  · omega
  rw [rangeD_map]
  refine wls_inv (fun i : Nat => PyData.int (i : Int)) (fun pre post ρ => pre ++ post = List.range 2 ∧ ∃ s1 s2 s3 s4 s5 s6 s7 s8 s9 s10 s11 s12 s13 s14 s15 s16 s17 s18 s19, ρ = [.fro (scrD ns), s1, s2, s3, s4, s5, s6, s7, s8, s9, s10, s11, s12, s13, s14, s15, s16, s17, s18, s19]) ?_ (fun _ _ _ => trivial) _ [] _ ⟨rfl, _, _, _, _, _, _, _, _, _, _, _, _, _, _, _, _, _, _, _, rfl⟩
  rintro pre k post _ ⟨hp, s1, s2, s3, s4, s5, s6, s7, s8, s9, s10, s11, s12, s13, s14, s15, s16, s17, s18, s19, rfl⟩
  have hk : k < 2 := List.mem_range.mp (by rw [← hp]; simp)
  walk_at "wp"
  refine q_box k (by omega) _ fun bd hb => ?_
  walk_at "wp"
  refine q_frame 0 bd hb (by decide) _ fun f bd1 hb1 hf htf => ?_
  walk_at "wp"
  refine q_take 100 bd1 hb1 (by decide) 6 (by decide) (by decide) _ fun j bd2 hb2 hj => ?_
  walk_at "wp"
  refine q_rows f hf htf j (by omega) 101 bd2 hb2 (by decide) _ fun rows bd3 hb3 hrl hro => ?_
  walk_at "wp"
  refine q_datum f hf 1701 bd3 hb3 (by decide) _ fun dd bd4 hb4 hdd => ?_
  walk_at "wp"
  refine ⟨_, _, rfl, ?_⟩
  have hR : okRs f 2 rows := ⟨by omega, fun x hx => okB_R (by decide) 2 x (hro x hx)⟩
  have hul := unrs_len (by decide) 2 rows hro
  have hcB : rows.length * cB 2 ≤ 1000 := Nat.le_trans (Nat.mul_le_mul_right _ (show rows.length ≤ 5 by omega)) (by decide)
  have hF : fits 2 rows := ⟨fun x hx => okB_fit (by decide) 2 (by decide) x (hro x hx), by omega⟩
  have zr : Sz 900 6 (E rows) := sz_rows (n := 2) (by omega) hro
  have s3 : f.size ≤ 3 := by rcases hf.size with z | z <;> omega
  have h8 : f.regs + f.cells ≤ 8 := by have := hf.regs; rcases hf.cells with z | z <;> omega
  walk_at "wq"
  refine ws_skip ?_ ?_
  · walk_at "wp"
    refine wr (q_frN hf) ?_
    walk_at "wp"
    refine wv (neS_self (sz_fr hf).lay (by decide)) ?_
    walk_at "wp"
    refine wr (q_prN hf hR (by decide)) ?_
    walk_at "wp"
    refine wv (neS_self zr.lay (by decide)) ?_
    walk_at "wp"
    refine wr (q_daN hf hdd.len hdd.val) ?_
    walk_at "wp"
    refine wv (neS_self (lay_T' dd) (by decide)) ?_
    walk_at "wp"
    exact ⟨rfl, rfl⟩
  walk_at "wq"
  refine ws_seq ?_
  walk_at "wq"
  refine wv fr1 ?_
  walk_at "wq"
  refine wv fr2 ?_
  walk_at "wq"
  refine wrngL (r := f.regs + f.cells) rfl (by omega) ?_
  rw [rangeD_map]
  refine wls_inv (fun i : Nat => PyData.int (i : Int)) (fun pre post ρ => pre ++ post = List.range (f.regs + f.cells) ∧ ∃ s7 s8 s9 s10, ρ = [.fro (scrD ns), .fro f.enc, .fro (N k), .own false bd4, .fro (E rows), .fro (T dd), .fro (.list ((allD f.size pre.length).map T)), s7, s8, s9, s10, s11, s12, s13, s14, s15, s16, s17, s18, s19]) ?_ ?_ _ [] _ ⟨rfl, _, _, _, _, rfl⟩
  · rintro pr i po _ ⟨hq, t7, t8, t9, t10, rfl⟩
    have hpl : pr.length < f.regs + f.cells := by
      have := congrArg List.length hq
      rw [List.length_append, List.length_cons, List.length_range] at this
      omega
    have ll := pow_le s3 (show pr.length + 1 ≤ 8 by omega)
    walk_at "wq"
    have hall := allD_mem f.size pr.length
    have hlen : ∀ l : List (List Nat), (l.flatMap fun d => (List.range f.size).map fun v => T (d ++ [v])).length = l.length * f.size := fun l => by
      induction l with
      | nil => simp
      | cons a l ih => rw [List.flatMap_cons, List.length_append, ih, List.length_map, List.length_range, List.length_cons, Nat.succ_mul]; omega
    refine ws_seq ?_
    walk_at "wq"
    refine wls_inv T (fun p2 q2 ρ => p2 ++ q2 = allD f.size pr.length ∧ ∃ s9 s10, ρ = [.fro (scrD ns), .fro f.enc, .fro (N k), .own false bd4, .fro (E rows), .fro (T dd), .fro (.list ((allD f.size pr.length).map T)), .fro (.int (i : Int)), .own false (p2.flatMap fun d => (List.range f.size).map fun v => T (d ++ [v])), s9, s10, s11, s12, s13, s14, s15, s16, s17, s18, s19]) ?_ ?_ _ [] _ ⟨rfl, _, _, rfl⟩
    · rintro p2 d q2 _ ⟨hq2, u9, u10, rfl⟩
      have hd : d ∈ allD f.size pr.length := by rw [← hq2]; simp
      have dl := hall d hd
      have l2 : (p2 ++ d :: q2).length = f.size ^ pr.length := by rw [hq2]; exact allD_len _ _
      rw [List.length_append, List.length_cons] at l2
      have l3 : (p2.length + 1) * f.size ≤ f.size ^ (pr.length + 1) := by
        rw [Nat.pow_succ]
        exact Nat.mul_le_mul_right _ (by omega)
      rw [Nat.add_mul] at l3
      walk_at "wq"
      refine wv fr0 ?_
      walk_at "wq"
      refine wrng (by omega) ?_
      rw [rangeD_map]
      walk_at "wq"
      refine wl_map (fun v : Nat => PyData.int (v : Int)) (fun v => T (d ++ [v])) (List.range f.size) (by rw [List.length_range]; omega) (fun v hv => ?_) ?_
      · walk_at "wq"
        rw [T_app]
        exact ⟨rfl, rfl⟩
      · walk_at "wq"
        refine ⟨by rw [hlen, List.length_map, List.length_range]; omega, ?_⟩
        walk_at "wq"
        have e : ((p2.flatMap fun d => (List.range f.size).map fun v => T (d ++ [v])) ++ (List.range f.size).map fun v => T (d ++ [v])) = (p2 ++ [d]).flatMap fun d => (List.range f.size).map fun v => T (d ++ [v]) := by rw [List.flatMap_append, List.flatMap_singleton]
        rw [e]
        exact ⟨by rw [List.append_assoc]; exact hq2, _, _, rfl⟩
    · rintro p2 _ ⟨hq2, u9, u10, rfl⟩
      rw [List.append_nil] at hq2
      subst hq2
      walk_at "wq"
      rw [allD_map, show pr.length + 1 = (pr ++ [i]).length by rw [List.length_append, List.length_singleton]]
      exact ⟨by rw [List.append_assoc]; exact hq, _, _, _, _, rfl⟩
  · rintro pr _ ⟨hq, t7, t8, t9, t10, rfl⟩
    have hpl : pr.length = f.regs + f.cells := by
      have := congrArg List.length hq
      rw [List.length_append, List.length_nil, List.length_range] at this
      omega
    rw [hpl]
    walk_at "wq"
    refine ws_skip ?_ ?_
    · walk_at "wp"
      refine wr (q_all hf) ?_
      walk_at "wp"
      have lyA : Lay 2 (.tuple ((allD f.size (f.regs + f.cells)).map T)) := Lay.tup fun z hz => by
        obtain ⟨d, _, rfl⟩ := List.mem_map.mp hz
        exact lay_T' d
      refine wv (neS_self lyA (by decide)) ?_
      walk_at "wp"
      refine wr (q_unr hf hR hF (by decide)) ?_
      walk_at "wp"
      refine wv (q_pl 2 rows hF (by decide)) ?_
      walk_at "wp"
      have zu : Lay 6 (E (unrs rows)) := lay_E fun y hy => by
        obtain ⟨x, hx, h2⟩ := mem_unrs hy
        exact lay_unr 2 x (hro x hx) y h2
      refine wv (neS_self zu (by decide)) ?_
      walk_at "wp"
      exact ⟨rfl, rfl⟩
    walk_at "wq"
    refine ws_seq ?_
    walk_at "wq"
    refine wrngL (r := 5) rfl ?_ ?_
    · omega
    rw [rangeD_map]
    refine wls_inv (fun i : Nat => PyData.int (i : Int)) (fun pre post ρ => pre ++ post = List.range 5 ∧ ∃ bd t7 t8 t9 t10 t11 t12 t13 t14 t15 t16, Box (2000 + 100 * pre.length) bd ∧ ρ = [.fro (scrD ns), .fro f.enc, .fro (N k), .own false bd, .fro (E rows), .fro (T dd), .fro (.list ((allD f.size (f.regs + f.cells)).map T)), t7, t8, t9, t10, t11, t12, t13, t14, t15, t16, s17, s18, s19]) ?_ ?_ _ [] _ ⟨rfl, _, _, _, _, _, _, _, _, _, _, _, hb4.mono (by decide), rfl⟩
    · rintro p5 i5 q5 _ ⟨hq5, bd, t7, t8, t9, t10, t11, t12, t13, t14, t15, t16, hbx, rfl⟩
      have hp5 : p5.length < 5 := by
        have := congrArg List.length hq5
        rw [List.length_append, List.length_cons, List.length_range] at this
        omega
      walk_at "wq"
      refine q_bent 4 3 f.enc bd _ (by decide) (by decide) (sz_fr hf) (by decide) hbx (by omega) 4 rfl _ fun w bd1 hbx1 hw => ?_
      walk_at "wq"
      refine wv (q_lfr (by decide) hw (by decide)) ?_
      walk_at "wq"
      refine ws_skip ?_ ?_
      · walk_at "wp"
        have e := q_fr (by decide) hw (by decide)
        cases hdf : dueF w with
        | none =>
          rw [hdf] at e
          refine wr e ?_
          walk_at "wp"
          refine wv (ne_is (by decide +kernel) hw.lay (by decide)) ?_
          walk_at "wp"
          exact ⟨rfl, rfl⟩
        | some i =>
          rw [hdf] at e
          refine wr_er e ?_
          refine wv (hs0 _) ?_
          walk_at "wp"
          refine wif_false rfl ?_
          walk_at "wp"
          refine wv (ne_is (by decide +kernel) Lay.int (by decide)) ?_
          walk_at "wp"
          exact ⟨rfl, rfl⟩
      walk_at "wq"
      refine q_bent 6 6 (E rows) bd1 _ (by decide) (by decide) zr (by decide) hbx1 (by omega) 6 rfl _ fun w2 bd2 hbx2 hw2 => ?_
      walk_at "wq"
      refine wv (q_due 901 6 (by decide) f w2 hw2 (by decide)) ?_
      walk_at "wq"
      refine ws_skip ?_ ?_
      · walk_at "wp"
        have e := q_pr (by decide) hf hw2 (by decide)
        cases hdf : dueD (rb f 8) w2 with
        | none =>
          rw [hdf] at e
          refine wr e ?_
          walk_at "wp"
          refine wv (ne_is (by decide +kernel) hw2.lay (by decide)) ?_
          walk_at "wp"
          exact ⟨rfl, rfl⟩
        | some i =>
          rw [hdf] at e
          refine wr_er e ?_
          refine wv (hs1 _) ?_
          walk_at "wp"
          refine wif_false rfl ?_
          walk_at "wp"
          refine wv (ne_is (by decide +kernel) Lay.int (by decide)) ?_
          walk_at "wp"
          exact ⟨rfl, rfl⟩
      walk_at "wq"
      have zd : Sz 900 1 (T dd) := sz_N dd (by rw [hdd.len]; omega)
      refine q_bent 2 1 (T dd) bd2 _ (by decide) (by decide) zd (by decide) hbx2 (by omega) 2 rfl _ fun w3 bd3 hbx3 hw3 => ?_
      walk_at "wq"
      refine wv fr1 ?_
      walk_at "wq"
      refine wv fr2 ?_
      walk_at "wq"
      refine wv fr0 ?_
      walk_at "wq"
      refine wv (q_lab (by decide) hw3 (by decide) _ _) ?_
      walk_at "wq"
      refine ws_skip1 ?_ ?_
      · walk_at "wp"
        have e := q_da (by decide) hf hw3
        cases hdf : (tupN ((f.regs : Int) + f.cells) w3 && allB (f.size : Nat) w3) with
        | true =>
          rw [hdf, if_pos rfl] at e
          refine wr e ?_
          walk_at "wp"
          refine wv (ne_is (by decide +kernel) hw3.lay (by decide)) ?_
          walk_at "wp"
          exact ⟨rfl, rfl⟩
        | false =>
          rw [hdf, if_neg (by decide)] at e
          refine wr_er e ?_
          refine wv (hs2 _) ?_
          walk_at "wp"
          refine wv (ne_is (by decide +kernel) Lay.int (by decide)) ?_
          walk_at "wp"
          exact ⟨rfl, rfl⟩
      walk_at "wq"
      refine ⟨by rw [List.append_assoc]; exact hq5, _, _, _, _, _, _, _, _, _, _, _, hbx3.mono ?_, rfl⟩
      rw [List.length_append, List.length_singleton]; omega
    · rintro p5 _ ⟨hq5, bd, t7, t8, t9, t10, t11, t12, t13, t14, t15, t16, hbx, rfl⟩
      walk_at "wq"
      refine ⟨by simp, ?_⟩
      walk_at "wq"
      refine ⟨by simp, ?_⟩
      walk_at "wq"
      refine ws_if ?_
      · walk_at "wp"
        refine wl_genD (fun _ => false) id (by simp) (fun x hx => ?_) ?_
        · simp only [List.nil_append, List.cons_append, List.mem_cons, List.not_mem_nil, or_false] at hx
          rcases hx with rfl | rfl | rfl
          · walk_at "wp"
            simp only [List.getD_cons_zero, List.getD_cons_succ]
            walk_at "wp"
            refine wr_er q_u1 ?_
            refine wv (hs0 _) ?_
            walk_at "wp"
            refine wv (ne_is (by decide +kernel) Lay.int (by decide)) ?_
            walk_at "wp"
            exact ⟨rfl, wif_f rfl⟩
          · walk_at "wp"
            simp only [List.getD_cons_zero, List.getD_cons_succ]
            walk_at "wp"
            refine wr_er (q_u2 f hf) ?_
            refine wv (hs1 _) ?_
            walk_at "wp"
            refine wv (ne_is (by decide +kernel) Lay.int (by decide)) ?_
            walk_at "wp"
            exact ⟨rfl, wif_f rfl⟩
          · walk_at "wp"
            simp only [List.getD_cons_zero, List.getD_cons_succ]
            walk_at "wp"
            refine wv (y := .tuple (cutD [N f.size, N f.regs, N f.cells, .tuple (f.tabs.map T), N f.deep] none (some 4))) rfl ?_
            walk_at "wp"
            refine wr_er (q_ad f hf) ?_
            refine wv (hs0 _) ?_
            walk_at "wp"
            refine wv (ne_is (by decide +kernel) Lay.int (by decide)) ?_
            walk_at "wp"
            exact ⟨rfl, wif_f rfl⟩
        · rw [List.filter_eq_nil_iff.mpr (fun _ _ => by decide), List.map_nil]
          walk_at "wp"
          refine wv (ne_lnil (n := 1) (Lay.lst fun x hx => by cases hx) (by decide)) ?_
          walk_at "wp"
          exact ⟨by rw [List.append_assoc]; exact hp, _, _, _, _, _, _, _, _, _, _, _, _, _, _, _, _, _, _, _, rfl⟩
end K06

namespace K06
open PySem L2 Evl Pd
theorem nd_ix {N : List Addr} (hN : N.Nodup) {i j : Nat} {x : Addr} (a : N[i]? = some x) (b : N[j]? = some x) : i = j := by
  obtain ⟨h1, e1⟩ := List.getElem?_eq_some_iff.mp a
  obtain ⟨h2, e2⟩ := List.getElem?_eq_some_iff.mp b
  exact (List.getElem_inj hN).mp (e1.trans e2.symm)
theorem all_mk {l : PySem.W.OpenLaw} {w : World} {K0 : PySem.W.Frag} {h : Heap} {mg : Str → Option Value} {fa : Addr} (X : K0.In h) (G : h.Ns mainGlobals mg) (hfa : mg "law" = some (.ref fa)) {cB cL PL cA PA c0 g0 c1 g1 c2 g2 f0 f1 f2 f3 f4 f5 f6 f7 f8 f9 f10 f11 f12 f13 f14 f15 f16 f17 f18 f19 f20 f21 f22 f23 f24 f25 f26 f27 f28 f29 f30 f31 f32 f33 : Addr}
    {nm0 q0 : Str} {N0 : Addr} {bs0 : List Value} {sn0 : List Str} {sub0 : List Value} {ab0 : Bool} {col0 : Option Bool} {dd0 : Option Addr} {m00 m10 m20 m30 m50 : Option Value} {oc0 dc0 pm0 cd0 ct0 : Value} {od0 an0 : Option Addr} {sl0 : Array (Option Value)}
    {nm1 q1 : Str} {N1 : Addr} {bs1 : List Value} {sn1 : List Str} {sub1 : List Value} {ab1 : Bool} {col1 : Option Bool} {dd1 : Option Addr} {m01 m11 m21 m31 m51 : Option Value} {oc1 dc1 pm1 cd1 ct1 : Value} {od1 an1 : Option Addr} {sl1 : Array (Option Value)}
    {nm2 q2 : Str} {N2 : Addr} {bs2 : List Value} {sn2 : List Str} {sub2 : List Value} {ab2 : Bool} {col2 : Option Bool} {dd2 : Option Addr} {m02 m12 m22 m32 m52 : Option Value} {oc2 dc2 pm2 cd2 ct2 : Value} {od2 an2 : Option Addr} {sl2 : Array (Option Value)}
    {ocf0 kVf0 dcf0 pmf0 cdf0 ctf0 : Value} {odf0 anf0 : Option Addr} {slf0 : Array (Option Value)}
    {ocf1 kVf1 dcf1 pmf1 cdf1 ctf1 : Value} {odf1 anf1 : Option Addr} {slf1 : Array (Option Value)}
    {ocf2 kVf2 dcf2 pmf2 cdf2 ctf2 : Value} {odf2 anf2 : Option Addr} {slf2 : Array (Option Value)}
    {ocf3 kVf3 dcf3 pmf3 ctf3 : Value} {odf3 anf3 : Option Addr} {slf3 : Array (Option Value)}
    {ocf4 kVf4 dcf4 pmf4 cdf4 ctf4 : Value} {odf4 anf4 : Option Addr} {slf4 : Array (Option Value)}
    {ocf5 kVf5 dcf5 pmf5 cdf5 ctf5 : Value} {odf5 anf5 : Option Addr} {slf5 : Array (Option Value)}
    {ocf6 kVf6 dcf6 pmf6 cdf6 ctf6 : Value} {odf6 anf6 : Option Addr} {slf6 : Array (Option Value)}
    {ocf7 kVf7 dcf7 pmf7 cdf7 ctf7 : Value} {odf7 anf7 : Option Addr} {slf7 : Array (Option Value)}
    {ocf8 kVf8 dcf8 pmf8 cdf8 ctf8 : Value} {odf8 anf8 : Option Addr} {slf8 : Array (Option Value)}
    {ocf9 kVf9 dcf9 pmf9 cdf9 ctf9 : Value} {odf9 anf9 : Option Addr} {slf9 : Array (Option Value)}
    {ocf10 kVf10 dcf10 pmf10 cdf10 ctf10 : Value} {odf10 anf10 : Option Addr} {slf10 : Array (Option Value)}
    {ocf11 kVf11 dcf11 pmf11 cdf11 ctf11 : Value} {odf11 anf11 : Option Addr} {slf11 : Array (Option Value)}
    {ocf12 kVf12 dcf12 pmf12 cdf12 ctf12 : Value} {odf12 anf12 : Option Addr} {slf12 : Array (Option Value)}
    {ocf13 kVf13 dcf13 pmf13 cdf13 ctf13 : Value} {odf13 anf13 : Option Addr} {slf13 : Array (Option Value)}
    {ocf14 kVf14 dcf14 pmf14 cdf14 ctf14 : Value} {odf14 anf14 : Option Addr} {slf14 : Array (Option Value)}
    {ocf15 kVf15 dcf15 pmf15 cdf15 ctf15 : Value} {odf15 anf15 : Option Addr} {slf15 : Array (Option Value)}
    {ocf16 kVf16 dcf16 pmf16 cdf16 ctf16 : Value} {odf16 anf16 : Option Addr} {slf16 : Array (Option Value)}
    {ocf17 kVf17 dcf17 pmf17 cdf17 ctf17 : Value} {odf17 anf17 : Option Addr} {slf17 : Array (Option Value)}
    {ocf18 kVf18 dcf18 pmf18 cdf18 ctf18 : Value} {odf18 anf18 : Option Addr} {slf18 : Array (Option Value)}
    {ocf19 kVf19 dcf19 pmf19 cdf19 ctf19 : Value} {odf19 anf19 : Option Addr} {slf19 : Array (Option Value)}
    {ocf20 kVf20 dcf20 pmf20 cdf20 ctf20 : Value} {odf20 anf20 : Option Addr} {slf20 : Array (Option Value)}
    {ocf21 kVf21 dcf21 pmf21 cdf21 ctf21 : Value} {odf21 anf21 : Option Addr} {slf21 : Array (Option Value)}
    {ocf22 kVf22 dcf22 pmf22 cdf22 ctf22 : Value} {odf22 anf22 : Option Addr} {slf22 : Array (Option Value)}
    {ocf23 kVf23 dcf23 pmf23 cdf23 ctf23 : Value} {odf23 anf23 : Option Addr} {slf23 : Array (Option Value)}
    {ocf24 kVf24 dcf24 pmf24 cdf24 ctf24 : Value} {odf24 anf24 : Option Addr} {slf24 : Array (Option Value)}
    {ocf25 kVf25 dcf25 pmf25 cdf25 ctf25 : Value} {odf25 anf25 : Option Addr} {slf25 : Array (Option Value)}
    {ocf26 kVf26 dcf26 pmf26 cdf26 ctf26 : Value} {odf26 anf26 : Option Addr} {slf26 : Array (Option Value)}
    {ocf27 kVf27 dcf27 pmf27 cdf27 ctf27 : Value} {odf27 anf27 : Option Addr} {slf27 : Array (Option Value)}
    {ocf28 kVf28 dcf28 pmf28 cdf28 ctf28 : Value} {odf28 anf28 : Option Addr} {slf28 : Array (Option Value)}
    {ocf29 kVf29 dcf29 pmf29 cdf29 ctf29 : Value} {odf29 anf29 : Option Addr} {slf29 : Array (Option Value)}
    {ocf30 kVf30 dcf30 pmf30 cdf30 ctf30 : Value} {odf30 anf30 : Option Addr} {slf30 : Array (Option Value)}
    {ocf31 kVf31 dcf31 pmf31 cdf31 ctf31 : Value} {odf31 anf31 : Option Addr} {slf31 : Array (Option Value)}
    {ocf32 kVf32 dcf32 pmf32 cdf32 ctf32 : Value} {odf32 anf32 : Option Addr} {slf32 : Array (Option Value)}
    {ocf33 kVf33 dcf33 pmf33 ctf33 : Value} {odf33 anf33 : Option Addr} {slf33 : Array (Option Value)}
    {tk_MOST_DEEP : Tok}
    {tk_MOST_REGISTERS : Tok}
    {tk_MOST_TABLES : Tok}
    {tk_MOST_TURNS : Tok}
    {dcA : Option Addr} {vsA : Array Value} {slA : Array (Option Value)} {fileA : Str} {tfA tgA ttA : Tok} {flagsA textA : Int} {inFA : Bool}
    {dcL : Option Addr} {vsL : Array Value} {slL : Array (Option Value)} {fileL : Str} {tfL tgL ttL : Tok} {flagsL textL : Int} {inFL : Bool}
    (aB : PySem.W.nsIn K0 mainGlobals "PromiseError" = some (some (.ref cB)))
    (eB : PySem.W.subIn K0 (.ref cB) (.type "BaseException") = some true)
    (iB : PySem.W.isClsIn K0 cB = true)
    (tB : PySem.W.typeIn K0 (.ref cB) = some (.type "type"))
    (a0 : PySem.W.nsIn K0 mainGlobals "InvalidFrame" = some (some (.ref c0)))
    (x0 : K0.lookup c0 = some (excClassObj nm0 q0 c0 N0 bs0 [.ref cB, .type "Exception", .type "BaseException", .type "object"] true sn0 sub0 ab0 col0 dd0 m00 m10 m20 m30 m50 "Exception.__new__"))
    (s0 : PySem.W.findIn K0 (.ref c0) "__setattr__" = some (some (.builtin "object.__setattr__")))
    (ga0 : PySem.W.findIn K0 (.ref c0) "__getattribute__" = some (some (.builtin "BaseException.__getattribute__")))
    (gg0 : PySem.W.findIn K0 (.ref c0) "__getattr__" = some none)
    (k0 : PySem.W.keepIn K0 (.ref c0) = true)
    (e0 : PySem.W.subIn K0 (.ref c0) (.type "BaseException") = some true)
    (t0 : PySem.W.typeIn K0 (.ref c0) = some (.type "type"))
    (h0 : PySem.W.hasDictIn K0 c0 = true)
    (nf0 : PySem.W.findIn K0 (.ref c0) "at" = some none)
    (i0 : PySem.W.findIn K0 (.ref c0) "__init__" = some (some (.ref g0)))
    (ti0 : PySem.W.typeIn K0 (.ref g0) = some (.type "function"))
    (l0 : K0.lookup g0 = some ⟨oc0, od0, .func (PySem.W.fnOf "__init__" "InvalidFrame.__init__" (PySem.PErrA.args ⟨6, 17, 6, 21⟩ ⟨6, 23, 6, 25⟩) (PySem.PErrA.body ⟨7, 8, 7, 12⟩ ⟨7, 8, 7, 15⟩ ⟨7, 18, 7, 20⟩ ⟨7, 8, 7, 20⟩) PySem.PErrA.scop .none .none dc0 pm0 an0 cd0 ct0), sl0⟩)
    (ci0 : PySem.W.codeIn K0 cd0 "InvalidFrame.__init__" = true)
    (a1 : PySem.W.nsIn K0 mainGlobals "InvalidProgram" = some (some (.ref c1)))
    (x1 : K0.lookup c1 = some (excClassObj nm1 q1 c1 N1 bs1 [.ref cB, .type "Exception", .type "BaseException", .type "object"] true sn1 sub1 ab1 col1 dd1 m01 m11 m21 m31 m51 "Exception.__new__"))
    (s1 : PySem.W.findIn K0 (.ref c1) "__setattr__" = some (some (.builtin "object.__setattr__")))
    (ga1 : PySem.W.findIn K0 (.ref c1) "__getattribute__" = some (some (.builtin "BaseException.__getattribute__")))
    (gg1 : PySem.W.findIn K0 (.ref c1) "__getattr__" = some none)
    (k1 : PySem.W.keepIn K0 (.ref c1) = true)
    (e1 : PySem.W.subIn K0 (.ref c1) (.type "BaseException") = some true)
    (t1 : PySem.W.typeIn K0 (.ref c1) = some (.type "type"))
    (h1 : PySem.W.hasDictIn K0 c1 = true)
    (nf1 : PySem.W.findIn K0 (.ref c1) "at" = some none)
    (i1 : PySem.W.findIn K0 (.ref c1) "__init__" = some (some (.ref g1)))
    (ti1 : PySem.W.typeIn K0 (.ref g1) = some (.type "function"))
    (l1 : K0.lookup g1 = some ⟨oc1, od1, .func (PySem.W.fnOf "__init__" "InvalidProgram.__init__" (PySem.PErrA.args ⟨10, 17, 10, 21⟩ ⟨10, 23, 10, 25⟩) (PySem.PErrA.body ⟨11, 8, 11, 12⟩ ⟨11, 8, 11, 15⟩ ⟨11, 18, 11, 20⟩ ⟨11, 8, 11, 20⟩) PySem.PErrA.scop .none .none dc1 pm1 an1 cd1 ct1), sl1⟩)
    (ci1 : PySem.W.codeIn K0 cd1 "InvalidProgram.__init__" = true)
    (a2 : PySem.W.nsIn K0 mainGlobals "InvalidDatum" = some (some (.ref c2)))
    (x2 : K0.lookup c2 = some (excClassObj nm2 q2 c2 N2 bs2 [.ref cB, .type "Exception", .type "BaseException", .type "object"] true sn2 sub2 ab2 col2 dd2 m02 m12 m22 m32 m52 "Exception.__new__"))
    (s2 : PySem.W.findIn K0 (.ref c2) "__setattr__" = some (some (.builtin "object.__setattr__")))
    (ga2 : PySem.W.findIn K0 (.ref c2) "__getattribute__" = some (some (.builtin "BaseException.__getattribute__")))
    (gg2 : PySem.W.findIn K0 (.ref c2) "__getattr__" = some none)
    (k2 : PySem.W.keepIn K0 (.ref c2) = true)
    (e2 : PySem.W.subIn K0 (.ref c2) (.type "BaseException") = some true)
    (t2 : PySem.W.typeIn K0 (.ref c2) = some (.type "type"))
    (h2 : PySem.W.hasDictIn K0 c2 = true)
    (nf2 : PySem.W.findIn K0 (.ref c2) "at" = some none)
    (i2 : PySem.W.findIn K0 (.ref c2) "__init__" = some (some (.ref g2)))
    (ti2 : PySem.W.typeIn K0 (.ref g2) = some (.type "function"))
    (l2 : K0.lookup g2 = some ⟨oc2, od2, .func (PySem.W.fnOf "__init__" "InvalidDatum.__init__" (PySem.PErrA.args ⟨14, 17, 14, 21⟩ ⟨14, 23, 14, 25⟩) (PySem.PErrA.body ⟨15, 8, 15, 12⟩ ⟨15, 8, 15, 15⟩ ⟨15, 18, 15, 20⟩ ⟨15, 8, 15, 20⟩) PySem.PErrA.scop .none .none dc2 pm2 an2 cd2 ct2), sl2⟩)
    (ci2 : PySem.W.codeIn K0 cd2 "InvalidDatum.__init__" = true)
    (af0 : PySem.W.nsIn K0 mainGlobals "is_integer" = some (some (.ref f0)))
    (lf0 : K0.lookup f0 = some ⟨ocf0, odf0, .func (PySem.W.fnOf "is_integer" "is_integer" (defArgs s_is_integer) (defBody s_is_integer) (defScope s_is_integer) .none kVf0 dcf0 pmf0 anf0 cdf0 ctf0), slf0⟩)
    (cf0 : PySem.W.codeIn K0 cdf0 "is_integer" = true)
    (kf0 : PySem.W.keepIn K0 (.ref f0) = true)
    (af1 : PySem.W.nsIn K0 mainGlobals "is_below" = some (some (.ref f1)))
    (lf1 : K0.lookup f1 = some ⟨ocf1, odf1, .func (PySem.W.fnOf "is_below" "is_below" (defArgs s_is_below) (defBody s_is_below) (defScope s_is_below) .none kVf1 dcf1 pmf1 anf1 cdf1 ctf1), slf1⟩)
    (cf1 : PySem.W.codeIn K0 cdf1 "is_below" = true)
    (kf1 : PySem.W.keepIn K0 (.ref f1) = true)
    (af2 : PySem.W.nsIn K0 mainGlobals "is_tuple_of" = some (some (.ref f2)))
    (lf2 : K0.lookup f2 = some ⟨ocf2, odf2, .func (PySem.W.fnOf "is_tuple_of" "is_tuple_of" (defArgs s_is_tuple_of) (defBody s_is_tuple_of) (defScope s_is_tuple_of) .none kVf2 dcf2 pmf2 anf2 cdf2 ctf2), slf2⟩)
    (cf2 : PySem.W.codeIn K0 cdf2 "is_tuple_of" = true)
    (kf2 : PySem.W.keepIn K0 (.ref f2) = true)
    (af3 : PySem.W.nsIn K0 mainGlobals "are_below" = some (some (.ref f3)))
    (lf3 : K0.lookup f3 = some ⟨ocf3, odf3, .func (PySem.W.fnOf "are_below" "are_below" (defArgs s_are_below) (defBody s_are_below) (defScope s_are_below) .none kVf3 dcf3 pmf3 anf3 (.ref cA) ctf3), slf3⟩)
    (cf3 : PySem.W.codeIn K0 (.ref cA) "are_below" = true)
    (kf3 : PySem.W.keepIn K0 (.ref f3) = true)
    (af4 : PySem.W.nsIn K0 mainGlobals "is_row_of_values" = some (some (.ref f4)))
    (lf4 : K0.lookup f4 = some ⟨ocf4, odf4, .func (PySem.W.fnOf "is_row_of_values" "is_row_of_values" (defArgs s_is_row_of_values) (defBody s_is_row_of_values) (defScope s_is_row_of_values) .none kVf4 dcf4 pmf4 anf4 cdf4 ctf4), slf4⟩)
    (cf4 : PySem.W.codeIn K0 cdf4 "is_row_of_values" = true)
    (kf4 : PySem.W.keepIn K0 (.ref f4) = true)
    (af5 : PySem.W.nsIn K0 mainGlobals "is_size" = some (some (.ref f5)))
    (lf5 : K0.lookup f5 = some ⟨ocf5, odf5, .func (PySem.W.fnOf "is_size" "is_size" (defArgs s_is_size) (defBody s_is_size) (defScope s_is_size) .none kVf5 dcf5 pmf5 anf5 cdf5 ctf5), slf5⟩)
    (cf5 : PySem.W.codeIn K0 cdf5 "is_size" = true)
    (kf5 : PySem.W.keepIn K0 (.ref f5) = true)
    (af6 : PySem.W.nsIn K0 mainGlobals "is_table" = some (some (.ref f6)))
    (lf6 : K0.lookup f6 = some ⟨ocf6, odf6, .func (PySem.W.fnOf "is_table" "is_table" (defArgs s_is_table) (defBody s_is_table) (defScope s_is_table) .none kVf6 dcf6 pmf6 anf6 cdf6 ctf6), slf6⟩)
    (cf6 : PySem.W.codeIn K0 cdf6 "is_table" = true)
    (kf6 : PySem.W.keepIn K0 (.ref f6) = true)
    (af7 : PySem.W.nsIn K0 mainGlobals "need_frame" = some (some (.ref f7)))
    (lf7 : K0.lookup f7 = some ⟨ocf7, odf7, .func (PySem.W.fnOf "need_frame" "need_frame" (defArgs s_need_frame) (defBody s_need_frame) (defScope s_need_frame) .none kVf7 dcf7 pmf7 anf7 cdf7 ctf7), slf7⟩)
    (cf7 : PySem.W.codeIn K0 cdf7 "need_frame" = true)
    (kf7 : PySem.W.keepIn K0 (.ref f7) = true)
    (af8 : PySem.W.nsIn K0 mainGlobals "all_data" = some (some (.ref f8)))
    (lf8 : K0.lookup f8 = some ⟨ocf8, odf8, .func (PySem.W.fnOf "all_data" "all_data" (defArgs s_all_data) (defBody s_all_data) (defScope s_all_data) .none kVf8 dcf8 pmf8 anf8 cdf8 ctf8), slf8⟩)
    (cf8 : PySem.W.codeIn K0 cdf8 "all_data" = true)
    (kf8 : PySem.W.keepIn K0 (.ref f8) = true)
    (af9 : PySem.W.nsIn K0 mainGlobals "need_datum" = some (some (.ref f9)))
    (lf9 : K0.lookup f9 = some ⟨ocf9, odf9, .func (PySem.W.fnOf "need_datum" "need_datum" (defArgs s_need_datum) (defBody s_need_datum) (defScope s_need_datum) .none kVf9 dcf9 pmf9 anf9 cdf9 ctf9), slf9⟩)
    (cf9 : PySem.W.codeIn K0 cdf9 "need_datum" = true)
    (kf9 : PySem.W.keepIn K0 (.ref f9) = true)
    (af10 : PySem.W.nsIn K0 mainGlobals "need_program" = some (some (.ref f10)))
    (lf10 : K0.lookup f10 = some ⟨ocf10, odf10, .func (PySem.W.fnOf "need_program" "need_program" (defArgs s_need_program) (defBody s_need_program) (defScope s_need_program) .none kVf10 dcf10 pmf10 anf10 cdf10 ctf10), slf10⟩)
    (cf10 : PySem.W.codeIn K0 cdf10 "need_program" = true)
    (kf10 : PySem.W.keepIn K0 (.ref f10) = true)
    (af11 : PySem.W.nsIn K0 mainGlobals "unrolled" = some (some (.ref f11)))
    (lf11 : K0.lookup f11 = some ⟨ocf11, odf11, .func (PySem.W.fnOf "unrolled" "unrolled" (defArgs s_unrolled) (defBody s_unrolled) (defScope s_unrolled) .none kVf11 dcf11 pmf11 anf11 cdf11 ctf11), slf11⟩)
    (cf11 : PySem.W.codeIn K0 cdf11 "unrolled" = true)
    (kf11 : PySem.W.keepIn K0 (.ref f11) = true)
    (af12 : PySem.W.nsIn K0 mainGlobals "are_tables" = some (some (.ref f12)))
    (lf12 : K0.lookup f12 = some ⟨ocf12, odf12, .func (PySem.W.fnOf "are_tables" "are_tables" (defArgs s_are_tables) (defBody s_are_tables) (defScope s_are_tables) .none kVf12 dcf12 pmf12 anf12 cdf12 ctf12), slf12⟩)
    (cf12 : PySem.W.codeIn K0 cdf12 "are_tables" = true)
    (kf12 : PySem.W.keepIn K0 (.ref f12) = true)
    (af13 : PySem.W.nsIn K0 mainGlobals "spots_many" = some (some (.ref f13)))
    (lf13 : K0.lookup f13 = some ⟨ocf13, odf13, .func (PySem.W.fnOf "spots_many" "spots_many" (defArgs s_spots_many) (defBody s_spots_many) (defScope s_spots_many) .none kVf13 dcf13 pmf13 anf13 cdf13 ctf13), slf13⟩)
    (cf13 : PySem.W.codeIn K0 cdf13 "spots_many" = true)
    (kf13 : PySem.W.keepIn K0 (.ref f13) = true)
    (af14 : PySem.W.nsIn K0 mainGlobals "is_datum" = some (some (.ref f14)))
    (lf14 : K0.lookup f14 = some ⟨ocf14, odf14, .func (PySem.W.fnOf "is_datum" "is_datum" (defArgs s_is_datum) (defBody s_is_datum) (defScope s_is_datum) .none kVf14 dcf14 pmf14 anf14 cdf14 ctf14), slf14⟩)
    (cf14 : PySem.W.codeIn K0 cdf14 "is_datum" = true)
    (kf14 : PySem.W.keepIn K0 (.ref f14) = true)
    (af15 : PySem.W.nsIn K0 mainGlobals "is_row" = some (some (.ref f15)))
    (lf15 : K0.lookup f15 = some ⟨ocf15, odf15, .func (PySem.W.fnOf "is_row" "is_row" (defArgs s_is_row) (defBody s_is_row) (defScope s_is_row) .none kVf15 dcf15 pmf15 anf15 cdf15 ctf15), slf15⟩)
    (cf15 : PySem.W.codeIn K0 cdf15 "is_row" = true)
    (kf15 : PySem.W.keepIn K0 (.ref f15) = true)
    (af16 : PySem.W.nsIn K0 mainGlobals "are_rows" = some (some (.ref f16)))
    (lf16 : K0.lookup f16 = some ⟨ocf16, odf16, .func (PySem.W.fnOf "are_rows" "are_rows" (defArgs s_are_rows) (defBody s_are_rows) (defScope s_are_rows) .none kVf16 dcf16 pmf16 anf16 cdf16 ctf16), slf16⟩)
    (cf16 : PySem.W.codeIn K0 cdf16 "are_rows" = true)
    (kf16 : PySem.W.keepIn K0 (.ref f16) = true)
    (af17 : PySem.W.nsIn K0 mainGlobals "is_silent_row" = some (some (.ref f17)))
    (lf17 : K0.lookup f17 = some ⟨ocf17, odf17, .func (PySem.W.fnOf "is_silent_row" "is_silent_row" (defArgs s_is_silent_row) (defBody s_is_silent_row) (defScope s_is_silent_row) .none kVf17 dcf17 pmf17 anf17 cdf17 ctf17), slf17⟩)
    (cf17 : PySem.W.codeIn K0 cdf17 "is_silent_row" = true)
    (kf17 : PySem.W.keepIn K0 (.ref f17) = true)
    (af18 : PySem.W.nsIn K0 mainGlobals "unrolled_rows" = some (some (.ref f18)))
    (lf18 : K0.lookup f18 = some ⟨ocf18, odf18, .func (PySem.W.fnOf "unrolled_rows" "unrolled_rows" (defArgs s_unrolled_rows) (defBody s_unrolled_rows) (defScope s_unrolled_rows) .none kVf18 dcf18 pmf18 anf18 cdf18 ctf18), slf18⟩)
    (cf18 : PySem.W.codeIn K0 cdf18 "unrolled_rows" = true)
    (kf18 : PySem.W.keepIn K0 (.ref f18) = true)
    (af19 : PySem.W.nsIn K0 mainGlobals "_law_box" = some (some (.ref f19)))
    (lf19 : K0.lookup f19 = some ⟨ocf19, odf19, .func (PySem.W.fnOf "_law_box" "_law_box" (defArgs s__law_box) (defBody s__law_box) (defScope s__law_box) .none kVf19 dcf19 pmf19 anf19 cdf19 ctf19), slf19⟩)
    (cf19 : PySem.W.codeIn K0 cdf19 "_law_box" = true)
    (kf19 : PySem.W.keepIn K0 (.ref f19) = true)
    (af20 : PySem.W.nsIn K0 mainGlobals "_law_take" = some (some (.ref f20)))
    (lf20 : K0.lookup f20 = some ⟨ocf20, odf20, .func (PySem.W.fnOf "_law_take" "_law_take" (defArgs s__law_take) (defBody s__law_take) (defScope s__law_take) .none kVf20 dcf20 pmf20 anf20 cdf20 ctf20), slf20⟩)
    (cf20 : PySem.W.codeIn K0 cdf20 "_law_take" = true)
    (kf20 : PySem.W.keepIn K0 (.ref f20) = true)
    (af21 : PySem.W.nsIn K0 mainGlobals "_law_pick" = some (some (.ref f21)))
    (lf21 : K0.lookup f21 = some ⟨ocf21, odf21, .func (PySem.W.fnOf "_law_pick" "_law_pick" (defArgs s__law_pick) (defBody s__law_pick) (defScope s__law_pick) .none kVf21 dcf21 pmf21 anf21 cdf21 ctf21), slf21⟩)
    (cf21 : PySem.W.codeIn K0 cdf21 "_law_pick" = true)
    (kf21 : PySem.W.keepIn K0 (.ref f21) = true)
    (af22 : PySem.W.nsIn K0 mainGlobals "_law_frame" = some (some (.ref f22)))
    (lf22 : K0.lookup f22 = some ⟨ocf22, odf22, .func (PySem.W.fnOf "_law_frame" "_law_frame" (defArgs s__law_frame) (defBody s__law_frame) (defScope s__law_frame) .none kVf22 dcf22 pmf22 anf22 cdf22 ctf22), slf22⟩)
    (cf22 : PySem.W.codeIn K0 cdf22 "_law_frame" = true)
    (kf22 : PySem.W.keepIn K0 (.ref f22) = true)
    (af23 : PySem.W.nsIn K0 mainGlobals "_law_rows" = some (some (.ref f23)))
    (lf23 : K0.lookup f23 = some ⟨ocf23, odf23, .func (PySem.W.fnOf "_law_rows" "_law_rows" (defArgs s__law_rows) (defBody s__law_rows) (defScope s__law_rows) .none kVf23 dcf23 pmf23 anf23 cdf23 ctf23), slf23⟩)
    (cf23 : PySem.W.codeIn K0 cdf23 "_law_rows" = true)
    (kf23 : PySem.W.keepIn K0 (.ref f23) = true)
    (af24 : PySem.W.nsIn K0 mainGlobals "_law_datum" = some (some (.ref f24)))
    (lf24 : K0.lookup f24 = some ⟨ocf24, odf24, .func (PySem.W.fnOf "_law_datum" "_law_datum" (defArgs s__law_datum) (defBody s__law_datum) (defScope s__law_datum) .none kVf24 dcf24 pmf24 anf24 cdf24 ctf24), slf24⟩)
    (cf24 : PySem.W.codeIn K0 cdf24 "_law_datum" = true)
    (kf24 : PySem.W.keepIn K0 (.ref f24) = true)
    (af25 : PySem.W.nsIn K0 mainGlobals "_law_plain" = some (some (.ref f25)))
    (lf25 : K0.lookup f25 = some ⟨ocf25, odf25, .func (PySem.W.fnOf "_law_plain" "_law_plain" (defArgs s__law_plain) (defBody s__law_plain) (defScope s__law_plain) .none kVf25 dcf25 pmf25 anf25 cdf25 ctf25), slf25⟩)
    (cf25 : PySem.W.codeIn K0 cdf25 "_law_plain" = true)
    (kf25 : PySem.W.keepIn K0 (.ref f25) = true)
    (af26 : PySem.W.nsIn K0 mainGlobals "_law_is_below" = some (some (.ref f26)))
    (lf26 : K0.lookup f26 = some ⟨ocf26, odf26, .func (PySem.W.fnOf "_law_is_below" "_law_is_below" (defArgs s__law_is_below) (defBody s__law_is_below) (defScope s__law_is_below) .none kVf26 dcf26 pmf26 anf26 cdf26 ctf26), slf26⟩)
    (cf26 : PySem.W.codeIn K0 cdf26 "_law_is_below" = true)
    (kf26 : PySem.W.keepIn K0 (.ref f26) = true)
    (af27 : PySem.W.nsIn K0 mainGlobals "_law_are_below" = some (some (.ref f27)))
    (lf27 : K0.lookup f27 = some ⟨ocf27, odf27, .func (PySem.W.fnOf "_law_are_below" "_law_are_below" (defArgs s__law_are_below) (defBody s__law_are_below) (defScope s__law_are_below) .none kVf27 dcf27 pmf27 anf27 cdf27 ctf27), slf27⟩)
    (cf27 : PySem.W.codeIn K0 cdf27 "_law_are_below" = true)
    (kf27 : PySem.W.keepIn K0 (.ref f27) = true)
    (af28 : PySem.W.nsIn K0 mainGlobals "_law_frame_due" = some (some (.ref f28)))
    (lf28 : K0.lookup f28 = some ⟨ocf28, odf28, .func (PySem.W.fnOf "_law_frame_due" "_law_frame_due" (defArgs s__law_frame_due) (defBody s__law_frame_due) (defScope s__law_frame_due) .none kVf28 dcf28 pmf28 anf28 cdf28 ctf28), slf28⟩)
    (cf28 : PySem.W.codeIn K0 cdf28 "_law_frame_due" = true)
    (kf28 : PySem.W.keepIn K0 (.ref f28) = true)
    (af29 : PySem.W.nsIn K0 mainGlobals "_law_is_row" = some (some (.ref f29)))
    (lf29 : K0.lookup f29 = some ⟨ocf29, odf29, .func (PySem.W.fnOf "_law_is_row" "_law_is_row" (defArgs s__law_is_row) (defBody s__law_is_row) (defScope s__law_is_row) .none kVf29 dcf29 pmf29 anf29 cdf29 ctf29), slf29⟩)
    (cf29 : PySem.W.codeIn K0 cdf29 "_law_is_row" = true)
    (kf29 : PySem.W.keepIn K0 (.ref f29) = true)
    (af30 : PySem.W.nsIn K0 mainGlobals "_law_due" = some (some (.ref f30)))
    (lf30 : K0.lookup f30 = some ⟨ocf30, odf30, .func (PySem.W.fnOf "_law_due" "_law_due" (defArgs s__law_due) (defBody s__law_due) (defScope s__law_due) .none kVf30 dcf30 pmf30 anf30 cdf30 ctf30), slf30⟩)
    (cf30 : PySem.W.codeIn K0 cdf30 "_law_due" = true)
    (kf30 : PySem.W.keepIn K0 (.ref f30) = true)
    (af31 : PySem.W.nsIn K0 mainGlobals "_law_bent" = some (some (.ref f31)))
    (lf31 : K0.lookup f31 = some ⟨ocf31, odf31, .func (PySem.W.fnOf "_law_bent" "_law_bent" (defArgs s__law_bent) (defBody s__law_bent) (defScope s__law_bent) .none kVf31 dcf31 pmf31 anf31 cdf31 ctf31), slf31⟩)
    (cf31 : PySem.W.codeIn K0 cdf31 "_law_bent" = true)
    (kf31 : PySem.W.keepIn K0 (.ref f31) = true)
    (af32 : PySem.W.nsIn K0 mainGlobals "_law_heard" = some (some (.ref f32)))
    (lf32 : K0.lookup f32 = some ⟨ocf32, odf32, .func (PySem.W.fnOf "_law_heard" "_law_heard" (defArgs s__law_heard) (defBody s__law_heard) (defScope s__law_heard) .none kVf32 dcf32 pmf32 anf32 cdf32 ctf32), slf32⟩)
    (cf32 : PySem.W.codeIn K0 cdf32 "_law_heard" = true)
    (kf32 : PySem.W.keepIn K0 (.ref f32) = true)
    (af33 : PySem.W.nsIn K0 mainGlobals "law" = some (some (.ref f33)))
    (lf33 : K0.lookup f33 = some ⟨ocf33, odf33, .func (PySem.W.fnOf "law" "law" (defArgs s_law) (defBody s_law) (defScope s_law) .none kVf33 dcf33 pmf33 anf33 (.ref cL) ctf33), slf33⟩)
    (cf33 : PySem.W.codeIn K0 (.ref cL) "law" = true)
    (kf33 : PySem.W.keepIn K0 (.ref f33) = true)
    (zabs : PySem.W.nsIn K0 mainGlobals "abs" = some none)
    (zall : PySem.W.nsIn K0 mainGlobals "all" = some none)
    (zbool : PySem.W.nsIn K0 mainGlobals "bool" = some none)
    (zenumerate : PySem.W.nsIn K0 mainGlobals "enumerate" = some none)
    (zint : PySem.W.nsIn K0 mainGlobals "int" = some none)
    (zisinstance : PySem.W.nsIn K0 mainGlobals "isinstance" = some none)
    (zlen : PySem.W.nsIn K0 mainGlobals "len" = some none)
    (zlist : PySem.W.nsIn K0 mainGlobals "list" = some none)
    (zrange : PySem.W.nsIn K0 mainGlobals "range" = some none)
    (zstr : PySem.W.nsIn K0 mainGlobals "str" = some none)
    (ztuple : PySem.W.nsIn K0 mainGlobals "tuple" = some none)
    (nd : ([c0, c1, c2] : List Addr).Nodup ∧ cB ∉ ([c0, c1, c2] : List Addr))
    (q_MOST_DEEP : PySem.W.nsIn K0 mainGlobals "MOST_DEEP" = some (some (.int 3 tk_MOST_DEEP)))
    (q_MOST_REGISTERS : PySem.W.nsIn K0 mainGlobals "MOST_REGISTERS" = some (some (.int 4 tk_MOST_REGISTERS)))
    (q_MOST_TABLES : PySem.W.nsIn K0 mainGlobals "MOST_TABLES" = some (some (.int 4 tk_MOST_TABLES)))
    (q_MOST_TURNS : PySem.W.nsIn K0 mainGlobals "MOST_TURNS" = some (some (.int 4 tk_MOST_TURNS)))
    (lcA : K0.lookup cA = some ⟨.type "code", dcA, .fields vsA, slA⟩)
    (v11A : vsA[11]? = some (.ref PA) ∧ vsA.getD 11 Value.none = .ref PA)
    (v18A : vsA.getD 18 Value.none = .str fileA tfA)
    (v7A : vsA.getD 7 Value.none = .int flagsA tgA)
    (v9A : vsA.getD 9 Value.none = .bool inFA)
    (v10A : vsA.getD 10 Value.none = .int textA ttA)
    (vneA : cA ≠ PA)
    (vPA : K0.lookup PA = none)
    (lcL : K0.lookup cL = some ⟨.type "code", dcL, .fields vsL, slL⟩)
    (v11L : vsL[11]? = some (.ref PL) ∧ vsL.getD 11 Value.none = .ref PL)
    (v18L : vsL.getD 18 Value.none = .str fileL tfL)
    (v7L : vsL.getD 7 Value.none = .int flagsL tgL)
    (v9L : vsL.getD 9 Value.none = .bool inFL)
    (v10L : vsL.getD 10 Value.none = .int textL ttL)
    (vneL : cL ≠ PL)
    (vPL : K0.lookup PL = none)
    (vap : PA ≠ PL)
    (hOwn : L2.OwnN K0 mg "are_below" h) (hTab : ∀ P, P ∈ [PL] → h.get? P = some (PySem.W.tabObj #[])) :
    LawAtG l w K0 CX0 55 63 "script" mg fa h := by
  have e := hfa.symm.trans (PySem.W.mg_of X G af33)
  cases e
  have Y0 : PySem.PErr.Cl K0 mg "InvalidFrame" c0 cB := ⟨PySem.W.mg_of X G a0, ⟨_, _, _, _, _, _, _, _, _, _, _, _, _, _, x0⟩, s0, ga0, gg0, k0, e0, t0, h0⟩
  have Y1 : PySem.PErr.Cl K0 mg "InvalidProgram" c1 cB := ⟨PySem.W.mg_of X G a1, ⟨_, _, _, _, _, _, _, _, _, _, _, _, _, _, x1⟩, s1, ga1, gg1, k1, e1, t1, h1⟩
  have Y2 : PySem.PErr.Cl K0 mg "InvalidDatum" c2 cB := ⟨PySem.W.mg_of X G a2, ⟨_, _, _, _, _, _, _, _, _, _, _, _, _, _, x2⟩, s2, ga2, gg2, k2, e2, t2, h2⟩
  obtain ⟨nd1, nd2⟩ := nd
  have T0 : Txt ({ K := K0, T := [(PA, ("are_below.<locals>.<genexpr>" : Str)), (PL, ("law.<locals>.<lambda>" : Str))] } : PKt) mg (fun i => ([c0, c1, c2] : List Addr).getD i 0) cB (fun i => ([g0, g1, g2] : List Addr).getD i 0) := by
    refine {
      b_abs := PySem.W.mg_none_of X G zabs,
      b_all := PySem.W.mg_none_of X G zall,
      b_bool := PySem.W.mg_none_of X G zbool,
      b_enumerate := PySem.W.mg_none_of X G zenumerate,
      b_int := PySem.W.mg_none_of X G zint,
      b_isinstance := PySem.W.mg_none_of X G zisinstance,
      b_len := PySem.W.mg_none_of X G zlen,
      b_list := PySem.W.mg_none_of X G zlist,
      b_range := PySem.W.mg_none_of X G zrange,
      b_str := PySem.W.mg_none_of X G zstr,
      b_tuple := PySem.W.mg_none_of X G ztuple,
      k_MOST_DEEP := ⟨_, PySem.W.mg_of X G q_MOST_DEEP⟩,
      k_MOST_REGISTERS := ⟨_, PySem.W.mg_of X G q_MOST_REGISTERS⟩,
      k_MOST_TABLES := ⟨_, PySem.W.mg_of X G q_MOST_TABLES⟩,
      k_MOST_TURNS := ⟨_, PySem.W.mg_of X G q_MOST_TURNS⟩,
      x_InvalidFrame := ⟨Y0, nf0, i0, ti0, ⟨_, _, _, _, _, _, _, _, _, _, _, _, _, _, l0, ci0⟩⟩,
      x_InvalidProgram := ⟨Y1, nf1, i1, ti1, ⟨_, _, _, _, _, _, _, _, _, _, _, _, _, _, l1, ci1⟩⟩,
      x_InvalidDatum := ⟨Y2, nf2, i2, ti2, ⟨_, _, _, _, _, _, _, _, _, _, _, _, _, _, l2, ci2⟩⟩,
      exm := ?_ }
    have all : ∀ i, i < 3 → ∃ x, PySem.PErr.Cl K0 mg x (([c0, c1, c2] : List Addr).getD i 0) cB := by
      intro i hi
      have cs : i = 0 ∨ i = 1 ∨ i = 2 := by omega
      rcases cs with rfl | rfl | rfl
      · exact ⟨_, Y0⟩
      · exact ⟨_, Y1⟩
      · exact ⟨_, Y2⟩
    intro i j hi hj
    obtain ⟨x, Yi⟩ := all i hi
    obtain ⟨y, Yj⟩ := all j hj
    have mem : ∀ i, i < 3 → ([c0, c1, c2] : List Addr)[i]? = some (([c0, c1, c2] : List Addr).getD i 0) := fun i hi => by
      rw [List.getD_eq_getElem?_getD, List.getElem?_eq_getElem (by simpa using hi)] <;> rfl
    rw [PySem.PErr.exm_cl Yi Yj (fun z => nd2 (by rw [z]; exact List.mem_of_getElem? (mem j hj)))]
    congr 1
    by_cases hij : i = j
    · subst hij
      rw [decide_eq_true rfl, decide_eq_true rfl]
    · rw [decide_eq_false hij, decide_eq_false (fun z => hij (nd_ix nd1 (mem i hi) (by rw [z]; exact mem j hj)))]
  have F0 := fun_mk (st := s_is_integer) lf0 cf0 kf0
  have b0 := F0.binds (ps := ["value"]) fun _ _ _ _ _ _ us hl => match us, hl with | [_], _ => rfl
  have F1 := fun_mk (st := s_is_below) lf1 cf1 kf1
  have b1 := F1.binds (ps := ["value", "many"]) fun _ _ _ _ _ _ us hl => match us, hl with | [_, _], _ => rfl
  have F2 := fun_mk (st := s_is_tuple_of) lf2 cf2 kf2
  have b2 := F2.binds (ps := ["value", "many"]) fun _ _ _ _ _ _ us hl => match us, hl with | [_, _], _ => rfl
  have F3 := fun_mk (st := s_are_below) lf3 cf3 kf3
  have b3 := F3.binds (ps := ["values", "many"]) fun _ _ _ _ _ _ us hl => match us, hl with | [_, _], _ => rfl
  have F4 := fun_mk (st := s_is_row_of_values) lf4 cf4 kf4
  have b4 := F4.binds (ps := ["value", "length", "size"]) fun _ _ _ _ _ _ us hl => match us, hl with | [_, _, _], _ => rfl
  have F5 := fun_mk (st := s_is_size) lf5 cf5 kf5
  have b5 := F5.binds (ps := ["value"]) fun _ _ _ _ _ _ us hl => match us, hl with | [_], _ => rfl
  have F6 := fun_mk (st := s_is_table) lf6 cf6 kf6
  have b6 := F6.binds (ps := ["size", "value"]) fun _ _ _ _ _ _ us hl => match us, hl with | [_, _], _ => rfl
  have F7 := fun_mk (st := s_need_frame) lf7 cf7 kf7
  have b7 := F7.binds (ps := ["value"]) fun _ _ _ _ _ _ us hl => match us, hl with | [_], _ => rfl
  have F8 := fun_mk (st := s_all_data) lf8 cf8 kf8
  have b8 := F8.binds (ps := ["frame"]) fun _ _ _ _ _ _ us hl => match us, hl with | [_], _ => rfl
  have F9 := fun_mk (st := s_need_datum) lf9 cf9 kf9
  have b9 := F9.binds (ps := ["frame", "value"]) fun _ _ _ _ _ _ us hl => match us, hl with | [_, _], _ => rfl
  have F10 := fun_mk (st := s_need_program) lf10 cf10 kf10
  have b10 := F10.binds (ps := ["frame", "value"]) fun _ _ _ _ _ _ us hl => match us, hl with | [_, _], _ => rfl
  have F11 := fun_mk (st := s_unrolled) lf11 cf11 kf11
  have b11 := F11.binds (ps := ["frame", "program"]) fun _ _ _ _ _ _ us hl => match us, hl with | [_, _], _ => rfl
  have F12 := fun_mk (st := s_are_tables) lf12 cf12 kf12
  have b12 := F12.binds (ps := ["size", "tables"]) fun _ _ _ _ _ _ us hl => match us, hl with | [_, _], _ => rfl
  have F13 := fun_mk (st := s_spots_many) lf13 cf13 kf13
  have b13 := F13.binds (ps := ["frame"]) fun _ _ _ _ _ _ us hl => match us, hl with | [_], _ => rfl
  have F14 := fun_mk (st := s_is_datum) lf14 cf14 kf14
  have b14 := F14.binds (ps := ["frame", "value"]) fun _ _ _ _ _ _ us hl => match us, hl with | [_, _], _ => rfl
  have F15 := fun_mk (st := s_is_row) lf15 cf15 kf15
  have b15 := F15.binds (ps := ["frame", "row"]) fun _ _ _ _ _ _ us hl => match us, hl with | [_, _], _ => rfl
  have F16 := fun_mk (st := s_are_rows) lf16 cf16 kf16
  have b16 := F16.binds (ps := ["frame", "rows"]) fun _ _ _ _ _ _ us hl => match us, hl with | [_, _], _ => rfl
  have F17 := fun_mk (st := s_is_silent_row) lf17 cf17 kf17
  have b17 := F17.binds (ps := ["frame", "row"]) fun _ _ _ _ _ _ us hl => match us, hl with | [_, _], _ => rfl
  have F18 := fun_mk (st := s_unrolled_rows) lf18 cf18 kf18
  have b18 := F18.binds (ps := ["rows"]) fun _ _ _ _ _ _ us hl => match us, hl with | [_], _ => rfl
  have F19 := fun_mk (st := s__law_box) lf19 cf19 kf19
  have b19 := F19.binds (ps := ["script", "k"]) fun _ _ _ _ _ _ us hl => match us, hl with | [_, _], _ => rfl
  have F20 := fun_mk (st := s__law_take) lf20 cf20 kf20
  have b20 := F20.binds (ps := ["box", "many"]) fun _ _ _ _ _ _ us hl => match us, hl with | [_, _], _ => rfl
  have F21 := fun_mk (st := s__law_pick) lf21 cf21 kf21
  have b21 := F21.binds (ps := ["box", "some"]) fun _ _ _ _ _ _ us hl => match us, hl with | [_, _], _ => rfl
  have F22 := fun_mk (st := s__law_frame) lf22 cf22 kf22
  have b22 := F22.binds (ps := ["box"]) fun _ _ _ _ _ _ us hl => match us, hl with | [_], _ => rfl
  have F23 := fun_mk (st := s__law_rows) lf23 cf23 kf23
  have b23 := F23.binds (ps := ["box", "frame", "many", "deep"]) fun _ _ _ _ _ _ us hl => match us, hl with | [_, _, _, _], _ => rfl
  have F24 := fun_mk (st := s__law_datum) lf24 cf24 kf24
  have b24 := F24.binds (ps := ["box", "frame"]) fun _ _ _ _ _ _ us hl => match us, hl with | [_, _], _ => rfl
  have F25 := fun_mk (st := s__law_plain) lf25 cf25 kf25
  have b25 := F25.binds (ps := ["rows"]) fun _ _ _ _ _ _ us hl => match us, hl with | [_], _ => rfl
  have F26 := fun_mk (st := s__law_is_below) lf26 cf26 kf26
  have b26 := F26.binds (ps := ["value", "limit"]) fun _ _ _ _ _ _ us hl => match us, hl with | [_, _], _ => rfl
  have F27 := fun_mk (st := s__law_are_below) lf27 cf27 kf27
  have b27 := F27.binds (ps := ["value", "many", "limit"]) fun _ _ _ _ _ _ us hl => match us, hl with | [_, _, _], _ => rfl
  have F28 := fun_mk (st := s__law_frame_due) lf28 cf28 kf28
  have b28 := F28.binds (ps := ["value"]) fun _ _ _ _ _ _ us hl => match us, hl with | [_], _ => rfl
  have F29 := fun_mk (st := s__law_is_row) lf29 cf29 kf29
  have b29 := F29.binds (ps := ["frame", "row"]) fun _ _ _ _ _ _ us hl => match us, hl with | [_, _], _ => rfl
  have F30 := fun_mk (st := s__law_due) lf30 cf30 kf30
  have b30 := F30.binds (ps := ["frame", "value"]) fun _ _ _ _ _ _ us hl => match us, hl with | [_, _], _ => rfl
  have F31 := fun_mk (st := s__law_bent) lf31 cf31 kf31
  have b31 := F31.binds (ps := ["box", "value", "deep"]) fun _ _ _ _ _ _ us hl => match us, hl with | [_, _, _], _ => rfl
  have F32 := fun_mk (st := s__law_heard) lf32 cf32 kf32
  have b32 := F32.binds (ps := ["work"]) fun _ _ _ _ _ _ us hl => match us, hl with | [_], _ => rfl
  refine ⟨PySem.W.fnOf "law" "law" (defArgs s_law) (defBody s_law) (defScope s_law) .none kVf33 dcf33 pmf33 anf33 (.ref cL) ctf33, [(cA, PA), (cL, PL)], spL ({ K := K0, T := [(PA, ("are_below.<locals>.<genexpr>" : Str)), (PL, ("law.<locals>.<lambda>" : Str))] } : PKt) 1 (denQ 20 (den_law F__law_box F__law_frame F_unrolled (F__law_rows 8) F__law_datum (F__law_bent 8) F__law_frame_due (F__law_due 8) F__law_are_below F_all_data F__law_take F_need_frame F_need_program F_need_datum (F__law_plain 8))), fun p hp => ?_, fun p hp => ?_, fun p hp => ?_, fun s v => .of_eq rfl, fun H a ns h1 h2 h3 h4 => ?_, fun base _ _ TBs => ?_⟩
  · rcases List.mem_cons.mp hp with hp | hp
    · cases hp
      exact hOwn f3 cA PA _ _ _ _ _ _ (PySem.W.mg_of X G af3) lf3 rfl rfl lcA v11A.1
    · cases List.mem_singleton.mp hp
      exact hTab PL (List.mem_singleton.mpr rfl)
  · rcases List.mem_cons.mp hp with hp | hp
    · cases hp
      exact vPA
    · cases List.mem_singleton.mp hp
      exact vPL
  · rcases List.mem_cons.mp hp with hp | hp
    · cases hp
      exact ⟨_, vsA, fileA, tfA, flagsA, tgA, inFA, textA, ttA, X _ _ lcA, rfl, rfl, v11A.1, v11A.2, v18A, v7A, v9A, v10A, vneA⟩
    · cases List.mem_singleton.mp hp
      exact ⟨_, vsL, fileL, tfL, flagsL, tgL, inFL, textL, ttL, X _ _ lcL, rfl, rfl, v11L.1, v11L.2, v18L, v7L, v9L, v10L, vneL⟩
  · refine script_spL (K := ({ K := K0, T := [(PA, ("are_below.<locals>.<genexpr>" : Str)), (PL, ("law.<locals>.<lambda>" : Str))] } : PKt)) (fun p hp => ?_) h4 (math ns h1 h2)
    rcases List.mem_cons.mp hp with hp | hp
    · cases hp
      exact ⟨#[], h3 (cA, PA) (List.mem_cons_self), by first | trivial | (intro z hz; cases hz) | exact .nil | decide, fun pos cv z => by cases z⟩
    · cases List.mem_singleton.mp hp
      exact ⟨#[], h3 (cL, PL) (List.mem_cons_of_mem _ (List.mem_singleton.mpr rfl)), by first | trivial | (intro z hz; cases hz) | exact .nil | decide, fun pos cv z => by cases z⟩
  have key : ∀ J : LamK, (Dfn l.prog w K0 mg base CX0 1 "_law_box" ["script", "k"] (spN (({ K := K0, T := [(PA, ("are_below.<locals>.<genexpr>" : Str)), (PL, ("law.<locals>.<lambda>" : Str))] } : PKt).withL J) 2 F__law_box) f19 (PySem.W.fnOf "_law_box" "_law_box" (defArgs s__law_box) (defBody s__law_box) (defScope s__law_box) .none kVf19 dcf19 pmf19 anf19 cdf19 ctf19)) ∧ (Dfn l.prog w K0 mg base CX0 3 "_law_frame" ["box"] (spB (({ K := K0, T := [(PA, ("are_below.<locals>.<genexpr>" : Str)), (PL, ("law.<locals>.<lambda>" : Str))] } : PKt).withL J) 0 F__law_frame) f22 (PySem.W.fnOf "_law_frame" "_law_frame" (defArgs s__law_frame) (defBody s__law_frame) (defScope s__law_frame) .none kVf22 dcf22 pmf22 anf22 cdf22 ctf22)) ∧ (Dfn l.prog w K0 mg base (L2.CX l.prog w) 52 "unrolled" ["frame", "program"] (spE (({ K := K0, T := [(PA, ("are_below.<locals>.<genexpr>" : Str)), (PL, ("law.<locals>.<lambda>" : Str))] } : PKt).withL J) (ecOf (fun i => ([c0, c1, c2] : List Addr).getD i 0) 99) 2 F_unrolled) f11 (PySem.W.fnOf "unrolled" "unrolled" (defArgs s_unrolled) (defBody s_unrolled) (defScope s_unrolled) .none kVf11 dcf11 pmf11 anf11 cdf11 ctf11)) ∧ (Dfn l.prog w K0 mg base CX0 16 "_law_rows" ["box", "frame", "many", "deep"] (spB (({ K := K0, T := [(PA, ("are_below.<locals>.<genexpr>" : Str)), (PL, ("law.<locals>.<lambda>" : Str))] } : PKt).withL J) 3 (F__law_rows 8)) f23 (PySem.W.fnOf "_law_rows" "_law_rows" (defArgs s__law_rows) (defBody s__law_rows) (defScope s__law_rows) .none kVf23 dcf23 pmf23 anf23 cdf23 ctf23)) ∧ (Dfn l.prog w K0 mg base CX0 2 "_law_datum" ["box", "frame"] (spB (({ K := K0, T := [(PA, ("are_below.<locals>.<genexpr>" : Str)), (PL, ("law.<locals>.<lambda>" : Str))] } : PKt).withL J) 1 F__law_datum) f24 (PySem.W.fnOf "_law_datum" "_law_datum" (defArgs s__law_datum) (defBody s__law_datum) (defScope s__law_datum) .none kVf24 dcf24 pmf24 anf24 cdf24 ctf24)) ∧ (Dfn l.prog w K0 mg base CX0 24 "_law_bent" ["box", "value", "deep"] (spB (({ K := K0, T := [(PA, ("are_below.<locals>.<genexpr>" : Str)), (PL, ("law.<locals>.<lambda>" : Str))] } : PKt).withL J) 2 (F__law_bent 8)) f31 (PySem.W.fnOf "_law_bent" "_law_bent" (defArgs s__law_bent) (defBody s__law_bent) (defScope s__law_bent) .none kVf31 dcf31 pmf31 anf31 cdf31 ctf31)) ∧ (Dfn l.prog w K0 mg base CX0 3 "_law_frame_due" ["value"] (spQ (({ K := K0, T := [(PA, ("are_below.<locals>.<genexpr>" : Str)), (PL, ("law.<locals>.<lambda>" : Str))] } : PKt).withL J) 1 F__law_frame_due) f28 (PySem.W.fnOf "_law_frame_due" "_law_frame_due" (defArgs s__law_frame_due) (defBody s__law_frame_due) (defScope s__law_frame_due) .none kVf28 dcf28 pmf28 anf28 cdf28 ctf28)) ∧ (Dfn l.prog w K0 mg base CX0 33 "_law_due" ["frame", "value"] (spQ (({ K := K0, T := [(PA, ("are_below.<locals>.<genexpr>" : Str)), (PL, ("law.<locals>.<lambda>" : Str))] } : PKt).withL J) 2 (F__law_due 8)) f30 (PySem.W.fnOf "_law_due" "_law_due" (defArgs s__law_due) (defBody s__law_due) (defScope s__law_due) .none kVf30 dcf30 pmf30 anf30 cdf30 ctf30)) ∧ (Dfn l.prog w K0 mg base CX0 2 "_law_are_below" ["value", "many", "limit"] (spQ (({ K := K0, T := [(PA, ("are_below.<locals>.<genexpr>" : Str)), (PL, ("law.<locals>.<lambda>" : Str))] } : PKt).withL J) 3 F__law_are_below) f27 (PySem.W.fnOf "_law_are_below" "_law_are_below" (defArgs s__law_are_below) (defBody s__law_are_below) (defScope s__law_are_below) .none kVf27 dcf27 pmf27 anf27 cdf27 ctf27)) ∧ (Dfn l.prog w K0 mg base (L2.CX l.prog w) 10 "all_data" ["frame"] (spE (({ K := K0, T := [(PA, ("are_below.<locals>.<genexpr>" : Str)), (PL, ("law.<locals>.<lambda>" : Str))] } : PKt).withL J) (ecOf (fun i => ([c0, c1, c2] : List Addr).getD i 0) 99) 1 F_all_data) f8 (PySem.W.fnOf "all_data" "all_data" (defArgs s_all_data) (defBody s_all_data) (defScope s_all_data) .none kVf8 dcf8 pmf8 anf8 cdf8 ctf8)) ∧ (Dfn l.prog w K0 mg base CX0 1 "_law_take" ["box", "many"] (spB (({ K := K0, T := [(PA, ("are_below.<locals>.<genexpr>" : Str)), (PL, ("law.<locals>.<lambda>" : Str))] } : PKt).withL J) 1 F__law_take) f20 (PySem.W.fnOf "_law_take" "_law_take" (defArgs s__law_take) (defBody s__law_take) (defScope s__law_take) .none kVf20 dcf20 pmf20 anf20 cdf20 ctf20)) ∧ (Dfn l.prog w K0 mg base (L2.CX l.prog w) 8 "need_frame" ["value"] (spE (({ K := K0, T := [(PA, ("are_below.<locals>.<genexpr>" : Str)), (PL, ("law.<locals>.<lambda>" : Str))] } : PKt).withL J) (ecOf (fun i => ([c0, c1, c2] : List Addr).getD i 0) 99) 1 F_need_frame) f7 (PySem.W.fnOf "need_frame" "need_frame" (defArgs s_need_frame) (defBody s_need_frame) (defScope s_need_frame) .none kVf7 dcf7 pmf7 anf7 cdf7 ctf7)) ∧ (Dfn l.prog w K0 mg base (L2.CX l.prog w) 50 "need_program" ["frame", "value"] (spE (({ K := K0, T := [(PA, ("are_below.<locals>.<genexpr>" : Str)), (PL, ("law.<locals>.<lambda>" : Str))] } : PKt).withL J) (ecOf (fun i => ([c0, c1, c2] : List Addr).getD i 0) 99) 2 F_need_program) f10 (PySem.W.fnOf "need_program" "need_program" (defArgs s_need_program) (defBody s_need_program) (defScope s_need_program) .none kVf10 dcf10 pmf10 anf10 cdf10 ctf10)) ∧ (Dfn l.prog w K0 mg base (L2.CX l.prog w) 10 "need_datum" ["frame", "value"] (spE (({ K := K0, T := [(PA, ("are_below.<locals>.<genexpr>" : Str)), (PL, ("law.<locals>.<lambda>" : Str))] } : PKt).withL J) (ecOf (fun i => ([c0, c1, c2] : List Addr).getD i 0) 99) 2 F_need_datum) f9 (PySem.W.fnOf "need_datum" "need_datum" (defArgs s_need_datum) (defBody s_need_datum) (defScope s_need_datum) .none kVf9 dcf9 pmf9 anf9 cdf9 ctf9)) ∧ (Dfn l.prog w K0 mg base CX0 8 "_law_plain" ["rows"] (spQ (({ K := K0, T := [(PA, ("are_below.<locals>.<genexpr>" : Str)), (PL, ("law.<locals>.<lambda>" : Str))] } : PKt).withL J) 1 (F__law_plain 8)) f25 (PySem.W.fnOf "_law_plain" "_law_plain" (defArgs s__law_plain) (defBody s__law_plain) (defScope s__law_plain) .none kVf25 dcf25 pmf25 anf25 cdf25 ctf25)) := by
    intro J
    have T := T0.up J
    have E_is_integer : Dfn l.prog w K0 mg base CX0 1 "is_integer" ["value"] (spQ (({ K := K0, T := [(PA, ("are_below.<locals>.<genexpr>" : Str)), (PL, ("law.<locals>.<lambda>" : Str))] } : PKt).withL J) 1 F_is_integer) f0 (PySem.W.fnOf "is_integer" "is_integer" (defArgs s_is_integer) (defBody s_is_integer) (defScope s_is_integer) .none kVf0 dcf0 pmf0 anf0 cdf0 ctf0) := ⟨ok_is_integer F0 T , PySem.W.mg_of X G af0, kf0, b0⟩
    have E_is_below : Dfn l.prog w K0 mg base CX0 2 "is_below" ["value", "many"] (spQ (({ K := K0, T := [(PA, ("are_below.<locals>.<genexpr>" : Str)), (PL, ("law.<locals>.<lambda>" : Str))] } : PKt).withL J) 2 F_is_below) f1 (PySem.W.fnOf "is_below" "is_below" (defArgs s_is_below) (defBody s_is_below) (defScope s_is_below) .none kVf1 dcf1 pmf1 anf1 cdf1 ctf1) := ⟨ok_is_below F1 T E_is_integer, PySem.W.mg_of X G af1, kf1, b1⟩
    have E_is_tuple_of : Dfn l.prog w K0 mg base CX0 1 "is_tuple_of" ["value", "many"] (spQ (({ K := K0, T := [(PA, ("are_below.<locals>.<genexpr>" : Str)), (PL, ("law.<locals>.<lambda>" : Str))] } : PKt).withL J) 2 F_is_tuple_of) f2 (PySem.W.fnOf "is_tuple_of" "is_tuple_of" (defArgs s_is_tuple_of) (defBody s_is_tuple_of) (defScope s_is_tuple_of) .none kVf2 dcf2 pmf2 anf2 cdf2 ctf2) := ⟨ok_is_tuple_of F2 T , PySem.W.mg_of X G af2, kf2, b2⟩
    have E_are_below : Dfn l.prog w K0 mg base CX0 3 "are_below" ["values", "many"] (spQ (({ K := K0, T := [(PA, ("are_below.<locals>.<genexpr>" : Str)), (PL, ("law.<locals>.<lambda>" : Str))] } : PKt).withL J) 2 Qt.F_are_below) f3 (PySem.W.fnOf "are_below" "are_below" (defArgs s_are_below) (defBody s_are_below) (defScope s_are_below) .none kVf3 dcf3 pmf3 anf3 (.ref cA) ctf3) := ⟨Qt.ok_are_below (K := (({ K := K0, T := [(PA, ("are_below.<locals>.<genexpr>" : Str)), (PL, ("law.<locals>.<lambda>" : Str))] } : PKt).withL J)) lf3 cf3 (List.mem_cons_self) (fun p hp e => by
      rcases List.mem_cons.mp hp with hp | hp
      · cases hp; rfl
      · cases List.mem_singleton.mp hp; exact absurd e.symm vap) (TBs (cA, PA) (List.mem_cons_self)) ⟨⟨_, _, _, _, _, _, F1, z_is_below, b1, PySem.W.mg_of X G af1, ⟨F0, z_is_integer, b0, PySem.W.mg_of X G af0⟩⟩⟩ ⟨T.b_isinstance, T.b_int, T.b_bool⟩ T.b_all z_are_below, PySem.W.mg_of X G af3, kf3, b3⟩
    have E_is_row_of_values : Dfn l.prog w K0 mg base CX0 4 "is_row_of_values" ["value", "length", "size"] (spQ (({ K := K0, T := [(PA, ("are_below.<locals>.<genexpr>" : Str)), (PL, ("law.<locals>.<lambda>" : Str))] } : PKt).withL J) 3 F_is_row_of_values) f4 (PySem.W.fnOf "is_row_of_values" "is_row_of_values" (defArgs s_is_row_of_values) (defBody s_is_row_of_values) (defScope s_is_row_of_values) .none kVf4 dcf4 pmf4 anf4 cdf4 ctf4) := ⟨ok_is_row_of_values F4 T E_is_tuple_of E_are_below, PySem.W.mg_of X G af4, kf4, b4⟩
    have E_is_size : Dfn l.prog w K0 mg base CX0 2 "is_size" ["value"] (spQ (({ K := K0, T := [(PA, ("are_below.<locals>.<genexpr>" : Str)), (PL, ("law.<locals>.<lambda>" : Str))] } : PKt).withL J) 1 F_is_size) f5 (PySem.W.fnOf "is_size" "is_size" (defArgs s_is_size) (defBody s_is_size) (defScope s_is_size) .none kVf5 dcf5 pmf5 anf5 cdf5 ctf5) := ⟨ok_is_size F5 T E_is_integer, PySem.W.mg_of X G af5, kf5, b5⟩
    have E_is_table : Dfn l.prog w K0 mg base CX0 5 "is_table" ["size", "value"] (spQ (({ K := K0, T := [(PA, ("are_below.<locals>.<genexpr>" : Str)), (PL, ("law.<locals>.<lambda>" : Str))] } : PKt).withL J) 2 F_is_table) f6 (PySem.W.fnOf "is_table" "is_table" (defArgs s_is_table) (defBody s_is_table) (defScope s_is_table) .none kVf6 dcf6 pmf6 anf6 cdf6 ctf6) := ⟨ok_is_table F6 T E_is_row_of_values, PySem.W.mg_of X G af6, kf6, b6⟩
    have E_are_tables : Dfn l.prog w K0 mg base CX0 6 "are_tables" ["size", "tables"] (spQ (({ K := K0, T := [(PA, ("are_below.<locals>.<genexpr>" : Str)), (PL, ("law.<locals>.<lambda>" : Str))] } : PKt).withL J) 2 F_are_tables) f12 (PySem.W.fnOf "are_tables" "are_tables" (defArgs s_are_tables) (defBody s_are_tables) (defScope s_are_tables) .none kVf12 dcf12 pmf12 anf12 cdf12 ctf12) := ⟨ok_are_tables F12 T E_is_table, PySem.W.mg_of X G af12, kf12, b12⟩
    have E_need_frame : Dfn l.prog w K0 mg base (L2.CX l.prog w) 8 "need_frame" ["value"] (spE (({ K := K0, T := [(PA, ("are_below.<locals>.<genexpr>" : Str)), (PL, ("law.<locals>.<lambda>" : Str))] } : PKt).withL J) (ecOf (fun i => ([c0, c1, c2] : List Addr).getD i 0) 99) 1 F_need_frame) f7 (PySem.W.fnOf "need_frame" "need_frame" (defArgs s_need_frame) (defBody s_need_frame) (defScope s_need_frame) .none kVf7 dcf7 pmf7 anf7 cdf7 ctf7) := ⟨ok_need_frame F7 T E_is_tuple_of E_is_size E_are_tables E_is_below, PySem.W.mg_of X G af7, kf7, b7⟩
    have E_spots_many : Dfn l.prog w K0 mg base CX0 1 "spots_many" ["frame"] (spQ (({ K := K0, T := [(PA, ("are_below.<locals>.<genexpr>" : Str)), (PL, ("law.<locals>.<lambda>" : Str))] } : PKt).withL J) 1 F_spots_many) f13 (PySem.W.fnOf "spots_many" "spots_many" (defArgs s_spots_many) (defBody s_spots_many) (defScope s_spots_many) .none kVf13 dcf13 pmf13 anf13 cdf13 ctf13) := ⟨ok_spots_many F13 T , PySem.W.mg_of X G af13, kf13, b13⟩
    have E_all_data : Dfn l.prog w K0 mg base (L2.CX l.prog w) 10 "all_data" ["frame"] (spE (({ K := K0, T := [(PA, ("are_below.<locals>.<genexpr>" : Str)), (PL, ("law.<locals>.<lambda>" : Str))] } : PKt).withL J) (ecOf (fun i => ([c0, c1, c2] : List Addr).getD i 0) 99) 1 F_all_data) f8 (PySem.W.fnOf "all_data" "all_data" (defArgs s_all_data) (defBody s_all_data) (defScope s_all_data) .none kVf8 dcf8 pmf8 anf8 cdf8 ctf8) := ⟨ok_all_data F8 T E_need_frame E_spots_many, PySem.W.mg_of X G af8, kf8, b8⟩
    have E_is_datum : Dfn l.prog w K0 mg base CX0 5 "is_datum" ["frame", "value"] (spQ (({ K := K0, T := [(PA, ("are_below.<locals>.<genexpr>" : Str)), (PL, ("law.<locals>.<lambda>" : Str))] } : PKt).withL J) 2 F_is_datum) f14 (PySem.W.fnOf "is_datum" "is_datum" (defArgs s_is_datum) (defBody s_is_datum) (defScope s_is_datum) .none kVf14 dcf14 pmf14 anf14 cdf14 ctf14) := ⟨ok_is_datum F14 T E_is_row_of_values E_spots_many, PySem.W.mg_of X G af14, kf14, b14⟩
    have E_need_datum : Dfn l.prog w K0 mg base (L2.CX l.prog w) 10 "need_datum" ["frame", "value"] (spE (({ K := K0, T := [(PA, ("are_below.<locals>.<genexpr>" : Str)), (PL, ("law.<locals>.<lambda>" : Str))] } : PKt).withL J) (ecOf (fun i => ([c0, c1, c2] : List Addr).getD i 0) 99) 2 F_need_datum) f9 (PySem.W.fnOf "need_datum" "need_datum" (defArgs s_need_datum) (defBody s_need_datum) (defScope s_need_datum) .none kVf9 dcf9 pmf9 anf9 cdf9 ctf9) := ⟨ok_need_datum F9 T E_need_frame E_is_datum, PySem.W.mg_of X G af9, kf9, b9⟩
    have E_is_silent_row : Dfn l.prog w K0 mg base CX0 4 "is_silent_row" ["frame", "row"] (spQ (({ K := K0, T := [(PA, ("are_below.<locals>.<genexpr>" : Str)), (PL, ("law.<locals>.<lambda>" : Str))] } : PKt).withL J) 2 F_is_silent_row) f17 (PySem.W.fnOf "is_silent_row" "is_silent_row" (defArgs s_is_silent_row) (defBody s_is_silent_row) (defScope s_is_silent_row) .none kVf17 dcf17 pmf17 anf17 cdf17 ctf17) := ⟨ok_is_silent_row F17 T E_is_below E_are_below, PySem.W.mg_of X G af17, kf17, b17⟩
    have E_is_row : ∀ n, Dfn l.prog w K0 mg base CX0 (6 * n) "is_row" ["frame", "row"] (spQ (({ K := K0, T := [(PA, ("are_below.<locals>.<genexpr>" : Str)), (PL, ("law.<locals>.<lambda>" : Str))] } : PKt).withL J) 2 (F_is_row n)) f15 (PySem.W.fnOf "is_row" "is_row" (defArgs s_is_row) (defBody s_is_row) (defScope s_is_row) .none kVf15 dcf15 pmf15 anf15 cdf15 ctf15) := by
      intro n
      induction n with
      | zero => exact ⟨fnok_Q (K := (({ K := K0, T := [(PA, ("are_below.<locals>.<genexpr>" : Str)), (PL, ("law.<locals>.<lambda>" : Str))] } : PKt).withL J)), PySem.W.mg_of X G af15, kf15, b15⟩
      | succ n ih =>
        have V_are_rows := (⟨ok_are_rows F16 T ih, PySem.W.mg_of X G af16, kf16, b16⟩ : Dfn l.prog w K0 mg base CX0 ((6 * n) + 0 + 1) "are_rows" ["frame", "rows"] (spQ (({ K := K0, T := [(PA, ("are_below.<locals>.<genexpr>" : Str)), (PL, ("law.<locals>.<lambda>" : Str))] } : PKt).withL J) 2 (G_are_rows (F_is_row n))) f16 (PySem.W.fnOf "are_rows" "are_rows" (defArgs s_are_rows) (defBody s_are_rows) (defScope s_are_rows) .none kVf16 dcf16 pmf16 anf16 cdf16 ctf16))
        exact ⟨ok_is_row F15 T E_is_silent_row E_is_below V_are_rows, PySem.W.mg_of X G af15, kf15, b15⟩
    have E_are_rows : ∀ n, Dfn l.prog w K0 mg base CX0 ((6 * n) + 0 + 1) "are_rows" ["frame", "rows"] (spQ (({ K := K0, T := [(PA, ("are_below.<locals>.<genexpr>" : Str)), (PL, ("law.<locals>.<lambda>" : Str))] } : PKt).withL J) 2 (F_are_rows n)) f16 (PySem.W.fnOf "are_rows" "are_rows" (defArgs s_are_rows) (defBody s_are_rows) (defScope s_are_rows) .none kVf16 dcf16 pmf16 anf16 cdf16 ctf16) := fun n => ⟨ok_are_rows F16 T (E_is_row n), PySem.W.mg_of X G af16, kf16, b16⟩
    have E_need_program : Dfn l.prog w K0 mg base (L2.CX l.prog w) 50 "need_program" ["frame", "value"] (spE (({ K := K0, T := [(PA, ("are_below.<locals>.<genexpr>" : Str)), (PL, ("law.<locals>.<lambda>" : Str))] } : PKt).withL J) (ecOf (fun i => ([c0, c1, c2] : List Addr).getD i 0) 99) 2 F_need_program) f10 (PySem.W.fnOf "need_program" "need_program" (defArgs s_need_program) (defBody s_need_program) (defScope s_need_program) .none kVf10 dcf10 pmf10 anf10 cdf10 ctf10) := ⟨ok_need_program F10 T E_need_frame (E_is_row 8), PySem.W.mg_of X G af10, kf10, b10⟩
    have E_unrolled_rows : ∀ n, Dfn l.prog w K0 mg base CX0 (1 * n) "unrolled_rows" ["rows"] (spQ (({ K := K0, T := [(PA, ("are_below.<locals>.<genexpr>" : Str)), (PL, ("law.<locals>.<lambda>" : Str))] } : PKt).withL J) 1 (F_unrolled_rows n)) f18 (PySem.W.fnOf "unrolled_rows" "unrolled_rows" (defArgs s_unrolled_rows) (defBody s_unrolled_rows) (defScope s_unrolled_rows) .none kVf18 dcf18 pmf18 anf18 cdf18 ctf18) := by
      intro n
      induction n with
      | zero => exact ⟨fnok_Q (K := (({ K := K0, T := [(PA, ("are_below.<locals>.<genexpr>" : Str)), (PL, ("law.<locals>.<lambda>" : Str))] } : PKt).withL J)), PySem.W.mg_of X G af18, kf18, b18⟩
      | succ n ih =>
        exact ⟨ok_unrolled_rows F18 T ih, PySem.W.mg_of X G af18, kf18, b18⟩
    have E_unrolled : Dfn l.prog w K0 mg base (L2.CX l.prog w) 52 "unrolled" ["frame", "program"] (spE (({ K := K0, T := [(PA, ("are_below.<locals>.<genexpr>" : Str)), (PL, ("law.<locals>.<lambda>" : Str))] } : PKt).withL J) (ecOf (fun i => ([c0, c1, c2] : List Addr).getD i 0) 99) 2 F_unrolled) f11 (PySem.W.fnOf "unrolled" "unrolled" (defArgs s_unrolled) (defBody s_unrolled) (defScope s_unrolled) .none kVf11 dcf11 pmf11 anf11 cdf11 ctf11) := ⟨ok_unrolled F11 T E_need_program (E_unrolled_rows 8), PySem.W.mg_of X G af11, kf11, b11⟩
    have E__law_box : Dfn l.prog w K0 mg base CX0 1 "_law_box" ["script", "k"] (spN (({ K := K0, T := [(PA, ("are_below.<locals>.<genexpr>" : Str)), (PL, ("law.<locals>.<lambda>" : Str))] } : PKt).withL J) 2 F__law_box) f19 (PySem.W.fnOf "_law_box" "_law_box" (defArgs s__law_box) (defBody s__law_box) (defScope s__law_box) .none kVf19 dcf19 pmf19 anf19 cdf19 ctf19) := ⟨ok__law_box F19 T , PySem.W.mg_of X G af19, kf19, b19⟩
    have E__law_take : Dfn l.prog w K0 mg base CX0 1 "_law_take" ["box", "many"] (spB (({ K := K0, T := [(PA, ("are_below.<locals>.<genexpr>" : Str)), (PL, ("law.<locals>.<lambda>" : Str))] } : PKt).withL J) 1 F__law_take) f20 (PySem.W.fnOf "_law_take" "_law_take" (defArgs s__law_take) (defBody s__law_take) (defScope s__law_take) .none kVf20 dcf20 pmf20 anf20 cdf20 ctf20) := ⟨ok__law_take F20 T , PySem.W.mg_of X G af20, kf20, b20⟩
    have E__law_pick : Dfn l.prog w K0 mg base CX0 2 "_law_pick" ["box", "some"] (spB (({ K := K0, T := [(PA, ("are_below.<locals>.<genexpr>" : Str)), (PL, ("law.<locals>.<lambda>" : Str))] } : PKt).withL J) 1 F__law_pick) f21 (PySem.W.fnOf "_law_pick" "_law_pick" (defArgs s__law_pick) (defBody s__law_pick) (defScope s__law_pick) .none kVf21 dcf21 pmf21 anf21 cdf21 ctf21) := ⟨ok__law_pick F21 T E__law_take, PySem.W.mg_of X G af21, kf21, b21⟩
    have E__law_frame : Dfn l.prog w K0 mg base CX0 3 "_law_frame" ["box"] (spB (({ K := K0, T := [(PA, ("are_below.<locals>.<genexpr>" : Str)), (PL, ("law.<locals>.<lambda>" : Str))] } : PKt).withL J) 0 F__law_frame) f22 (PySem.W.fnOf "_law_frame" "_law_frame" (defArgs s__law_frame) (defBody s__law_frame) (defScope s__law_frame) .none kVf22 dcf22 pmf22 anf22 cdf22 ctf22) := ⟨ok__law_frame F22 T E__law_pick E__law_take, PySem.W.mg_of X G af22, kf22, b22⟩
    have E__law_rows : ∀ n, Dfn l.prog w K0 mg base CX0 (2 * n) "_law_rows" ["box", "frame", "many", "deep"] (spB (({ K := K0, T := [(PA, ("are_below.<locals>.<genexpr>" : Str)), (PL, ("law.<locals>.<lambda>" : Str))] } : PKt).withL J) 3 (F__law_rows n)) f23 (PySem.W.fnOf "_law_rows" "_law_rows" (defArgs s__law_rows) (defBody s__law_rows) (defScope s__law_rows) .none kVf23 dcf23 pmf23 anf23 cdf23 ctf23) := by
      intro n
      induction n with
      | zero => exact ⟨fnok_B (K := (({ K := K0, T := [(PA, ("are_below.<locals>.<genexpr>" : Str)), (PL, ("law.<locals>.<lambda>" : Str))] } : PKt).withL J)), PySem.W.mg_of X G af23, kf23, b23⟩
      | succ n ih =>
        exact ⟨ok__law_rows F23 T E__law_take ih, PySem.W.mg_of X G af23, kf23, b23⟩
    have E__law_datum : Dfn l.prog w K0 mg base CX0 2 "_law_datum" ["box", "frame"] (spB (({ K := K0, T := [(PA, ("are_below.<locals>.<genexpr>" : Str)), (PL, ("law.<locals>.<lambda>" : Str))] } : PKt).withL J) 1 F__law_datum) f24 (PySem.W.fnOf "_law_datum" "_law_datum" (defArgs s__law_datum) (defBody s__law_datum) (defScope s__law_datum) .none kVf24 dcf24 pmf24 anf24 cdf24 ctf24) := ⟨ok__law_datum F24 T E__law_take, PySem.W.mg_of X G af24, kf24, b24⟩
    have E__law_plain : ∀ n, Dfn l.prog w K0 mg base CX0 (1 * n) "_law_plain" ["rows"] (spQ (({ K := K0, T := [(PA, ("are_below.<locals>.<genexpr>" : Str)), (PL, ("law.<locals>.<lambda>" : Str))] } : PKt).withL J) 1 (F__law_plain n)) f25 (PySem.W.fnOf "_law_plain" "_law_plain" (defArgs s__law_plain) (defBody s__law_plain) (defScope s__law_plain) .none kVf25 dcf25 pmf25 anf25 cdf25 ctf25) := by
      intro n
      induction n with
      | zero => exact ⟨fnok_Q (K := (({ K := K0, T := [(PA, ("are_below.<locals>.<genexpr>" : Str)), (PL, ("law.<locals>.<lambda>" : Str))] } : PKt).withL J)), PySem.W.mg_of X G af25, kf25, b25⟩
      | succ n ih =>
        exact ⟨ok__law_plain F25 T ih, PySem.W.mg_of X G af25, kf25, b25⟩
    have E__law_is_below : Dfn l.prog w K0 mg base CX0 1 "_law_is_below" ["value", "limit"] (spQ (({ K := K0, T := [(PA, ("are_below.<locals>.<genexpr>" : Str)), (PL, ("law.<locals>.<lambda>" : Str))] } : PKt).withL J) 2 F__law_is_below) f26 (PySem.W.fnOf "_law_is_below" "_law_is_below" (defArgs s__law_is_below) (defBody s__law_is_below) (defScope s__law_is_below) .none kVf26 dcf26 pmf26 anf26 cdf26 ctf26) := ⟨ok__law_is_below F26 T , PySem.W.mg_of X G af26, kf26, b26⟩
    have E__law_are_below : Dfn l.prog w K0 mg base CX0 2 "_law_are_below" ["value", "many", "limit"] (spQ (({ K := K0, T := [(PA, ("are_below.<locals>.<genexpr>" : Str)), (PL, ("law.<locals>.<lambda>" : Str))] } : PKt).withL J) 3 F__law_are_below) f27 (PySem.W.fnOf "_law_are_below" "_law_are_below" (defArgs s__law_are_below) (defBody s__law_are_below) (defScope s__law_are_below) .none kVf27 dcf27 pmf27 anf27 cdf27 ctf27) := ⟨ok__law_are_below F27 T E__law_is_below, PySem.W.mg_of X G af27, kf27, b27⟩
    have E__law_frame_due : Dfn l.prog w K0 mg base CX0 3 "_law_frame_due" ["value"] (spQ (({ K := K0, T := [(PA, ("are_below.<locals>.<genexpr>" : Str)), (PL, ("law.<locals>.<lambda>" : Str))] } : PKt).withL J) 1 F__law_frame_due) f28 (PySem.W.fnOf "_law_frame_due" "_law_frame_due" (defArgs s__law_frame_due) (defBody s__law_frame_due) (defScope s__law_frame_due) .none kVf28 dcf28 pmf28 anf28 cdf28 ctf28) := ⟨ok__law_frame_due F28 T E__law_is_below E__law_are_below, PySem.W.mg_of X G af28, kf28, b28⟩
    have E__law_is_row : ∀ n, Dfn l.prog w K0 mg base CX0 (4 * n) "_law_is_row" ["frame", "row"] (spQ (({ K := K0, T := [(PA, ("are_below.<locals>.<genexpr>" : Str)), (PL, ("law.<locals>.<lambda>" : Str))] } : PKt).withL J) 2 (F__law_is_row n)) f29 (PySem.W.fnOf "_law_is_row" "_law_is_row" (defArgs s__law_is_row) (defBody s__law_is_row) (defScope s__law_is_row) .none kVf29 dcf29 pmf29 anf29 cdf29 ctf29) := by
      intro n
      induction n with
      | zero => exact ⟨fnok_Q (K := (({ K := K0, T := [(PA, ("are_below.<locals>.<genexpr>" : Str)), (PL, ("law.<locals>.<lambda>" : Str))] } : PKt).withL J)), PySem.W.mg_of X G af29, kf29, b29⟩
      | succ n ih =>
        have V__law_due := (⟨ok__law_due F30 T ih, PySem.W.mg_of X G af30, kf30, b30⟩ : Dfn l.prog w K0 mg base CX0 ((4 * n) + 0 + 1) "_law_due" ["frame", "value"] (spQ (({ K := K0, T := [(PA, ("are_below.<locals>.<genexpr>" : Str)), (PL, ("law.<locals>.<lambda>" : Str))] } : PKt).withL J) 2 (G__law_due (F__law_is_row n))) f30 (PySem.W.fnOf "_law_due" "_law_due" (defArgs s__law_due) (defBody s__law_due) (defScope s__law_due) .none kVf30 dcf30 pmf30 anf30 cdf30 ctf30))
        exact ⟨ok__law_is_row F29 T E__law_is_below E__law_are_below V__law_due, PySem.W.mg_of X G af29, kf29, b29⟩
    have E__law_due : ∀ n, Dfn l.prog w K0 mg base CX0 ((4 * n) + 0 + 1) "_law_due" ["frame", "value"] (spQ (({ K := K0, T := [(PA, ("are_below.<locals>.<genexpr>" : Str)), (PL, ("law.<locals>.<lambda>" : Str))] } : PKt).withL J) 2 (F__law_due n)) f30 (PySem.W.fnOf "_law_due" "_law_due" (defArgs s__law_due) (defBody s__law_due) (defScope s__law_due) .none kVf30 dcf30 pmf30 anf30 cdf30 ctf30) := fun n => ⟨ok__law_due F30 T (E__law_is_row n), PySem.W.mg_of X G af30, kf30, b30⟩
    have E__law_bent : ∀ n, Dfn l.prog w K0 mg base CX0 (3 * n) "_law_bent" ["box", "value", "deep"] (spB (({ K := K0, T := [(PA, ("are_below.<locals>.<genexpr>" : Str)), (PL, ("law.<locals>.<lambda>" : Str))] } : PKt).withL J) 2 (F__law_bent n)) f31 (PySem.W.fnOf "_law_bent" "_law_bent" (defArgs s__law_bent) (defBody s__law_bent) (defScope s__law_bent) .none kVf31 dcf31 pmf31 anf31 cdf31 ctf31) := by
      intro n
      induction n with
      | zero => exact ⟨fnok_B (K := (({ K := K0, T := [(PA, ("are_below.<locals>.<genexpr>" : Str)), (PL, ("law.<locals>.<lambda>" : Str))] } : PKt).withL J)), PySem.W.mg_of X G af31, kf31, b31⟩
      | succ n ih =>
        exact ⟨ok__law_bent F31 T E__law_pick E__law_take ih, PySem.W.mg_of X G af31, kf31, b31⟩
    exact ⟨E__law_box, E__law_frame, E_unrolled, (E__law_rows 8), E__law_datum, (E__law_bent 8), E__law_frame_due, (E__law_due 8), E__law_are_below, E_all_data, E__law_take, E_need_frame, E_need_program, E_need_datum, (E__law_plain 8)⟩
  exact ok_law (K := ({ K := K0, T := [(PA, ("are_below.<locals>.<genexpr>" : Str)), (PL, ("law.<locals>.<lambda>" : Str))] } : PKt)) lf33 cf33 rfl (List.mem_cons_of_mem _ (List.mem_singleton.mpr rfl)) (fun p hp e => by
    rcases List.mem_cons.mp hp with hp | hp
    · cases hp; exact absurd e vap
    · cases List.mem_singleton.mp hp; rfl) (TBs (cL, PL) (List.mem_cons_of_mem _ (List.mem_singleton.mpr rfl))) T0 (fun J => (key J).1) (fun J => (key J).2.1) (fun J => (key J).2.2.1) (fun J => (key J).2.2.2.1) (fun J => (key J).2.2.2.2.1) (fun J => (key J).2.2.2.2.2.1) (fun J => (key J).2.2.2.2.2.2.1) (fun J => (key J).2.2.2.2.2.2.2.1) (fun J => (key J).2.2.2.2.2.2.2.2.1) (fun J => (key J).2.2.2.2.2.2.2.2.2.1) (fun J => (key J).2.2.2.2.2.2.2.2.2.2.1) (fun J => (key J).2.2.2.2.2.2.2.2.2.2.2.1) (fun J => (key J).2.2.2.2.2.2.2.2.2.2.2.2.1) (fun J => (key J).2.2.2.2.2.2.2.2.2.2.2.2.2.1) (fun J => (key J).2.2.2.2.2.2.2.2.2.2.2.2.2.2) (F7.konly (ks := ["value"]) fun _ _ _ _ _ _ ws hl => match ws, hl with | [_], _ => rfl) (F10.konly (ks := ["frame", "value"]) fun _ _ _ _ _ _ ws hl => match ws, hl with | [_, _], _ => rfl) (F9.konly (ks := ["frame", "value"]) fun _ _ _ _ _ _ ws hl => match ws, hl with | [_, _], _ => rfl) (F8.konly (ks := ["frame"]) fun _ _ _ _ _ _ ws hl => match ws, hl with | [_], _ => rfl) (F11.konly (ks := ["frame", "program"]) fun _ _ _ _ _ _ ws hl => match ws, hl with | [_, _], _ => rfl) F32 (PySem.W.mg_of X G af32) b32
end K06

open PySem PySem.W PyProof.Rows in
set_option maxRecDepth 100000 in
set_option maxHeartbeats 0 in
theorem PySem.Challenge.cw_leastpromise_k06_whole_frames_and_progra_holds : PySem.Challenge.rw_leastpromise_k06_whole_frames_and_progra.Holds := by
  w_on; o_law; k_head; (case hw => w_witness2)
  k_fill
  refine L2.walk_ofG2 (l := PySem.Challenge.rw_leastpromise_k06_whole_frames_and_progra) (n := 63) (k := 55) (x := "script") (y := "are_below") (CX := fun _ => L2.CX0) rfl (by decide) rfl ⟨rfl, by decide, by decide⟩ (by decide +kernel) (fun w h Y => PySem.W.km_in_of Y) ?F fun _ _ _ _ _ z => z
  case F =>
    intro w mg fa h Y KX G hmg hOwn
    have hTab := PySem.W.km_tabs_of Y
    refine' K06.all_mk KX G hmg ?aB ?eB ?iB ?tB ?a0 ?x0 ?s0 ?ga0 ?gg0 ?k0 ?e0 ?t0 ?h0 ?nf0 ?i0 ?ti0 ?l0 ?ci0 ?a1 ?x1 ?s1 ?ga1 ?gg1 ?k1 ?e1 ?t1 ?h1 ?nf1 ?i1 ?ti1 ?l1 ?ci1 ?a2 ?x2 ?s2 ?ga2 ?gg2 ?k2 ?e2 ?t2 ?h2 ?nf2 ?i2 ?ti2 ?l2 ?ci2 ?af0 ?lf0 ?cf0 ?kf0 ?af1 ?lf1 ?cf1 ?kf1 ?af2 ?lf2 ?cf2 ?kf2 ?af3 ?lf3 ?cf3 ?kf3 ?af4 ?lf4 ?cf4 ?kf4 ?af5 ?lf5 ?cf5 ?kf5 ?af6 ?lf6 ?cf6 ?kf6 ?af7 ?lf7 ?cf7 ?kf7 ?af8 ?lf8 ?cf8 ?kf8 ?af9 ?lf9 ?cf9 ?kf9 ?af10 ?lf10 ?cf10 ?kf10 ?af11 ?lf11 ?cf11 ?kf11 ?af12 ?lf12 ?cf12 ?kf12 ?af13 ?lf13 ?cf13 ?kf13 ?af14 ?lf14 ?cf14 ?kf14 ?af15 ?lf15 ?cf15 ?kf15 ?af16 ?lf16 ?cf16 ?kf16 ?af17 ?lf17 ?cf17 ?kf17 ?af18 ?lf18 ?cf18 ?kf18 ?af19 ?lf19 ?cf19 ?kf19 ?af20 ?lf20 ?cf20 ?kf20 ?af21 ?lf21 ?cf21 ?kf21 ?af22 ?lf22 ?cf22 ?kf22 ?af23 ?lf23 ?cf23 ?kf23 ?af24 ?lf24 ?cf24 ?kf24 ?af25 ?lf25 ?cf25 ?kf25 ?af26 ?lf26 ?cf26 ?kf26 ?af27 ?lf27 ?cf27 ?kf27 ?af28 ?lf28 ?cf28 ?kf28 ?af29 ?lf29 ?cf29 ?kf29 ?af30 ?lf30 ?cf30 ?kf30 ?af31 ?lf31 ?cf31 ?kf31 ?af32 ?lf32 ?cf32 ?kf32 ?af33 ?lf33 ?cf33 ?kf33 ?zabs ?zall ?zbool ?zenumerate ?zint ?zisinstance ?zlen ?zlist ?zrange ?zstr ?ztuple ?nd ?q_MOST_DEEP ?q_MOST_REGISTERS ?q_MOST_TABLES ?q_MOST_TURNS ?lcA ?v11A ?v18A ?v7A ?v9A ?v10A ?vneA ?vPA ?lcL ?v11L ?v18L ?v7L ?v9L ?v10L ?vneL ?vPL ?vap hOwn hTab
    (case aB => k_is)
    (case eB => k_is)
    (case iB => k_is)
    (case tB => k_is)
    (case a0 => k_is)
    (case x0 => k_is)
    (case s0 => k_is)
    (case ga0 => k_is)
    (case gg0 => k_is)
    (case k0 => k_is)
    (case e0 => k_is)
    (case t0 => k_is)
    (case h0 => k_is)
    (case nf0 => k_is)
    (case i0 => k_is)
    (case ti0 => k_is)
    (case l0 => k_is)
    (case ci0 => k_is)
    (case a1 => k_is)
    (case x1 => k_is)
    (case s1 => k_is)
    (case ga1 => k_is)
    (case gg1 => k_is)
    (case k1 => k_is)
    (case e1 => k_is)
    (case t1 => k_is)
    (case h1 => k_is)
    (case nf1 => k_is)
    (case i1 => k_is)
    (case ti1 => k_is)
    (case l1 => k_is)
    (case ci1 => k_is)
    (case a2 => k_is)
    (case x2 => k_is)
    (case s2 => k_is)
    (case ga2 => k_is)
    (case gg2 => k_is)
    (case k2 => k_is)
    (case e2 => k_is)
    (case t2 => k_is)
    (case h2 => k_is)
    (case nf2 => k_is)
    (case i2 => k_is)
    (case ti2 => k_is)
    (case l2 => k_is)
    (case ci2 => k_is)
    (case af0 => k_is)
    (case lf0 => k_is)
    (case cf0 => k_is)
    (case kf0 => k_is)
    (case af1 => k_is)
    (case lf1 => k_is)
    (case cf1 => k_is)
    (case kf1 => k_is)
    (case af2 => k_is)
    (case lf2 => k_is)
    (case cf2 => k_is)
    (case kf2 => k_is)
    (case af3 => k_is)
    (case lf3 => k_is)
    (case cf3 => k_is)
    (case kf3 => k_is)
    (case af4 => k_is)
    (case lf4 => k_is)
    (case cf4 => k_is)
    (case kf4 => k_is)
    (case af5 => k_is)
    (case lf5 => k_is)
    (case cf5 => k_is)
    (case kf5 => k_is)
    (case af6 => k_is)
    (case lf6 => k_is)
    (case cf6 => k_is)
    (case kf6 => k_is)
    (case af7 => k_is)
    (case lf7 => k_is)
    (case cf7 => k_is)
    (case kf7 => k_is)
    (case af8 => k_is)
    (case lf8 => k_is)
    (case cf8 => k_is)
    (case kf8 => k_is)
    (case af9 => k_is)
    (case lf9 => k_is)
    (case cf9 => k_is)
    (case kf9 => k_is)
    (case af10 => k_is)
    (case lf10 => k_is)
    (case cf10 => k_is)
    (case kf10 => k_is)
    (case af11 => k_is)
    (case lf11 => k_is)
    (case cf11 => k_is)
    (case kf11 => k_is)
    (case af12 => k_is)
    (case lf12 => k_is)
    (case cf12 => k_is)
    (case kf12 => k_is)
    (case af13 => k_is)
    (case lf13 => k_is)
    (case cf13 => k_is)
    (case kf13 => k_is)
    (case af14 => k_is)
    (case lf14 => k_is)
    (case cf14 => k_is)
    (case kf14 => k_is)
    (case af15 => k_is)
    (case lf15 => k_is)
    (case cf15 => k_is)
    (case kf15 => k_is)
    (case af16 => k_is)
    (case lf16 => k_is)
    (case cf16 => k_is)
    (case kf16 => k_is)
    (case af17 => k_is)
    (case lf17 => k_is)
    (case cf17 => k_is)
    (case kf17 => k_is)
    (case af18 => k_is)
    (case lf18 => k_is)
    (case cf18 => k_is)
    (case kf18 => k_is)
    (case af19 => k_is)
    (case lf19 => k_is)
    (case cf19 => k_is)
    (case kf19 => k_is)
    (case af20 => k_is)
    (case lf20 => k_is)
    (case cf20 => k_is)
    (case kf20 => k_is)
    (case af21 => k_is)
    (case lf21 => k_is)
    (case cf21 => k_is)
    (case kf21 => k_is)
    (case af22 => k_is)
    (case lf22 => k_is)
    (case cf22 => k_is)
    (case kf22 => k_is)
    (case af23 => k_is)
    (case lf23 => k_is)
    (case cf23 => k_is)
    (case kf23 => k_is)
    (case af24 => k_is)
    (case lf24 => k_is)
    (case cf24 => k_is)
    (case kf24 => k_is)
    (case af25 => k_is)
    (case lf25 => k_is)
    (case cf25 => k_is)
    (case kf25 => k_is)
    (case af26 => k_is)
    (case lf26 => k_is)
    (case cf26 => k_is)
    (case kf26 => k_is)
    (case af27 => k_is)
    (case lf27 => k_is)
    (case cf27 => k_is)
    (case kf27 => k_is)
    (case af28 => k_is)
    (case lf28 => k_is)
    (case cf28 => k_is)
    (case kf28 => k_is)
    (case af29 => k_is)
    (case lf29 => k_is)
    (case cf29 => k_is)
    (case kf29 => k_is)
    (case af30 => k_is)
    (case lf30 => k_is)
    (case cf30 => k_is)
    (case kf30 => k_is)
    (case af31 => k_is)
    (case lf31 => k_is)
    (case cf31 => k_is)
    (case kf31 => k_is)
    (case af32 => k_is)
    (case lf32 => k_is)
    (case cf32 => k_is)
    (case kf32 => k_is)
    (case af33 => k_is)
    (case lf33 => k_is)
    (case cf33 => k_is)
    (case kf33 => k_is)
    (case zabs => k_is)
    (case zall => k_is)
    (case zbool => k_is)
    (case zenumerate => k_is)
    (case zint => k_is)
    (case zisinstance => k_is)
    (case zlen => k_is)
    (case zlist => k_is)
    (case zrange => k_is)
    (case zstr => k_is)
    (case ztuple => k_is)
    (case nd => first | decide | exact ⟨by decide, by decide⟩)
    (case q_MOST_DEEP => k_is)
    (case q_MOST_REGISTERS => k_is)
    (case q_MOST_TABLES => k_is)
    (case q_MOST_TURNS => k_is)
    (case lcA => k_is)
    (case v11A => exact ⟨rfl, rfl⟩)
    (case v18A => exact rfl)
    (case v7A => exact rfl)
    (case v9A => exact rfl)
    (case v10A => exact rfl)
    (case vneA => decide)
    (case vPA => first | rfl | k_is | decide)
    (case lcL => k_is)
    (case v11L => exact ⟨rfl, rfl⟩)
    (case v18L => exact rfl)
    (case v7L => exact rfl)
    (case v9L => exact rfl)
    (case v10L => exact rfl)
    (case vneL => decide)
    (case vPL => first | rfl | k_is | decide)
    (case vap => decide)
