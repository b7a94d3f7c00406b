import PyProof.Rows.All
import Wide.All
import OpenK.AllK
import Wide.FinOn
import PyProof.EqAt
import PyProof.EqKinds
import PyProof.TupleCall
import PyProof.ReprRoads
import PyProof.ReprLen
import HandS.ForMost
import HandS.ForExc
import HandS.ExcInit
import HandS.ExcValue
import HandS.Defaults
import HandS.Wide
import HandS.WideBits
import HandS.Evl
import KE.KExcIs
import HandS.More
import HandS.SortInts
import HandS.IsInst
import HandS.Conv
import HandS.Zip
import HandS.Rev
import HandS.Style
import HandS.Flow
import HandS.Sort
import HandS.DictComp
import KE.GoesMore
import KE.GoesZip
import KE.GoesEnum
import HandS.Text
import HandS.RevRange
import HandS.TupLen
import HandS.Dict
import KE.KDictZip
import HandS.Base
import HandS.ExcField
import HandS.CallSlots
import KE.DataCmp
import PySem.Challenge.RW_anyplaces_k04_words_and_places_refused
import KE.SortData
import KE.DatumOrd
import HandS.SortKw
import HandS.Deep
import HandS.SetFor
import KE.DataAny
import KE.KFind
import HandS.TryOnly
import KE.KDictSum
import HandS.ExcOwn
import HandS.List
import PyProof.LongRange
import PyProof.ListRange
import HandS.TupAny
import Lean
import KE.KStateDown
import HandS.MakeKw
import HandS.Head0
import HandS.Head1
import HandS.Head2
import HandS.HeadEnd
import HandS.HeadHook1
import HandS.HeadHook2
import HandS.Star
set_option Elab.async false
set_option linter.all false
set_option maxRecDepth 100000
set_option maxHeartbeats 4000000
/-! Rules that the laws of anyplaces want beside the layer's own. -/
namespace AP
open PySem PySem.Spec PyProof.Rows L2
/-! ### a power of any size -/
def PowOk (i j : Int) : Prop := 0 ≤ j ∧ (Builtin.Int.intBits i : Int) * j ≤ 2 ^ 27
theorem op_powW {X : Cx} : OpR X (binaryOp .Pow) (rI PowOk fun i j => .int (i ^ j.toNat)) :=
  opI fun _ _ _ _ _ _ _ ok go => pow_int ok.1 ok.2 go
/-! ### a def that is called where no repr is under way -/
structure FnG (P : Program) (w : World) (K : PySem.W.Frag) (mg : Str → Option Value) (base : Heap) (CX : CXT)
    (k : Nat) (f : Addr) (fd : FuncData) (ps : List Str) (sp : Sp) : Prop where
  size : ∀ vs H Q E, sp vs H Q E → vs.length = ps.length
  goes : ∀ (A : Around) (outer : List Env) (s : Shared) (H : Hp) (args : Args) (us : List Value) (vs : List V) (Q : VK) (E : XK),
    A.guards = some [] → Room k A → Env0 P w K mg base A outer s H → BindsTo s fd args (ps.zip us) → Vals vs us →
      sp vs H Q E → codeAny (model P w) A (.call (.ref f) args) (CR CX outer P w H s Q E) s
theorem FnG.of {P : Program} {w : World} {K : PySem.W.Frag} {mg : Str → Option Value} {base : Heap} {CX : CXT} {k : Nat} {f : Addr} {fd : FuncData} {ps : List Str} {sp : Sp}
    (F : FnOk P w K mg base CX k f fd ps sp) : FnG P w K mg base CX k f fd ps sp :=
  ⟨F.len, fun A outer s H args us vs Q E _ r e b v h => F.run A outer s H args us vs Q E r e b v h⟩
section
variable {P : Program} {w : World} {K : PySem.W.Frag} {mg : Str → Option Value} {base : Heap}
/-- a def of the text as it stands behind the top, dvs its defaults -/
abbrev Df (K : PySem.W.Frag) (x qual : Str) (st : Stmt) (dvs : List V) (f : Addr) (fd : FuncData) : Prop :=
  FunD K x qual (defArgs st) (defBody st) (defScope st) dvs [] f fd
theorem Df.go {x qual : Str} {st : Stmt} {dvs : List V} {f : Addr} {fd : FuncData} {N ps : List Str} {k : Nat} {sp : Sp}
    (F : Df K x qual st dvs f fd) (S : FnScope N ps (defScope st)) (size : ∀ vs H Q E, sp vs H Q E → vs.length = ps.length)
    (body : ∀ (cdv : Value) (A : Around) (outer : List Env) (s : Shared) (H : Hp) (vs : List V) (Q : VK) (E : XK),
      Room k (A.deeper (envOfC qual (defScope st) s.heap.objs.size f cdv)) → sp vs H Q E →
        ∃ t, PSs (cxOf CX0 P w K mg base N qual (defScope st) f cdv A outer s H E).nox (defBody st) t ∧
          t { nx := fun _ H' => Q .non H', rt := Q } (start N vs) H) :
    FnOk P w K mg base CX0 (k + 1) f fd ps sp :=
  FunD.ok F S size fun cdv A outer s H vs Q E hr h => by
    obtain ⟨t, ht, hq⟩ := body cdv A outer s H vs Q E hr h
    exact ⟨t, ht.nox, hq⟩
theorem Df.goG {x qual : Str} {st : Stmt} {dvs : List V} {f : Addr} {fd : FuncData} {N ps : List Str} {k : Nat} {sp : Sp}
    (F : Df K x qual st dvs f fd) (S : FnScope N ps (defScope st)) (size : ∀ vs H Q E, sp vs H Q E → vs.length = ps.length)
    (body : ∀ (cdv : Value) (A : Around) (outer : List Env) (s : Shared) (H : Hp) (vs : List V) (Q : VK) (E : XK),
      (A.deeper (envOfC qual (defScope st) s.heap.objs.size f cdv)).guards = some [] →
      Room k (A.deeper (envOfC qual (defScope st) s.heap.objs.size f cdv)) → sp vs H Q E →
        ∃ t, PSs (cxOf CX0 P w K mg base N qual (defScope st) f cdv A outer s H E).nox (defBody st) t ∧
          t { nx := fun _ H' => Q .non H', rt := Q } (start N vs) H) :
    FnG P w K mg base CX0 (k + 1) f fd ps sp := by
  obtain ⟨oc, od, dV, kV, doc, pm, an, cdv, ct, osl, rfl, there, code, _, _⟩ := F.ex
  refine ⟨size, fun A outer s H args us vs Q E noG room env0 bind vals want => ?_⟩
  have many := size _ _ _ _ want
  have inK : K.In s.heap := env0.mod.kin.keeps fun b o e => (env0.bs b o e).1
  have lim : s.heap.NoLimit := env0.mod.nolimit.keeps fun b o e => (env0.bs b o e).1
  have kinds : ∀ y ∈ ps.zip us, (defScope st).names.lookup y.1 = some .local ∨
      ((defScope st).names.lookup y.1 = some .cell ∧
        ((cellsFrom (s.heap.objs.size + 1) (defScope st).names []).lookup y.1).isSome = true) := by
    rintro ⟨n, v⟩ hy
    rcases S.par n (List.of_mem_zip hy).1 with q | q
    · exact .inl q
    · exact .inr ⟨q, PySem.W.cellsFrom_some _ _ _ (.inl q)⟩
  refine codeAny_call_function room.depth (inK _ _ there) rfl S.co S.gen rfl
    (PySem.W.codeRec_of inK code) (bind _ _ _ _ ?_)
  refine wpAny_newFunctionEnv_cells S.kind kinds fun env eenv s1 call => ?_
  subst eenv
  refine ⟨lim.keeps call.toInCall.keep, codeAny_func ?_⟩
  obtain ⟨t, ht, hq⟩ := body cdv A outer s H vs Q E noG (room.deeper _) want
  have J := inv_start (CX := CX0) (E := E) S room.hd env0 many vals call
  refine wpAny_mono (ht.nox.run [] s1 (start N vs) H _ J hq) (fun fl s' hs => ?_) fun e s' hs => hs
  cases fl with
  | ret u =>
    obtain ⟨v, σ', H', I, rv, q⟩ := hs
    exact ⟨v, H', I.os, I.bare, I.base, I.hok, rv, q⟩
  | next =>
    obtain ⟨σ', H', I, q⟩ := hs
    exact ⟨V.non, H', I.os, I.bare, I.base, I.hok, rfl, q⟩
  | brk =>
    obtain ⟨_, _, _, q⟩ := hs
    exact q.elim
  | cont =>
    obtain ⟨_, _, _, q⟩ := hs
    exact q.elim
end
section
variable {X : Cx} {CX : CXT} {k : Nat} {f : Addr} {fd : FuncData} {ps : List Str} {sp : Sp} {dvs : List V} {ds : List Value} {E : XK} {x : Str} {p pos : Pos} {e : Expr} {es : List Expr} {t : TA}
theorem run_g {pins : List (Addr × Obj)} {σ : L2.St} {H : Hp} {s : Shared} {Q : VK} {us : List Value} {vs : List V}
    (F : FnG X.prog X.w X.K X.mg X.base CX k f fd ps sp) (ng : X.A.guards = some []) (hr : Room k X.A)
    (hb : Binds X.K fd ps ds) (hd : Vals dvs ds) (hx : Passes CX X E) (I : Inv X pins σ H s) (r : Vals vs us)
    (h : sp (vs ++ dvs) H Q E) : wpAny (model X.prog X.w) X.A (call (.ref f) us) (EP X pins σ Q) X.xe s := by
  have both : Vals (vs ++ dvs) (us ++ ds) := r.append hd
  have many : (us ++ ds).length = ps.length := both.length.symm.trans (F.size _ _ _ _ h)
  refine wpAny_call (codeAny_mono (F.goes X.A X.stack s H ⟨us, []⟩ (us ++ ds) (vs ++ dvs) Q E ng hr I.env0
    (hb s us I.kIn many) both h) fun res s' hq => ?_)
  cases res with
  | error er => exact hx pins σ H s er s' I hq
  | ok fl =>
    cases fl with
    | ret u => exact I.after hq
    | next => exact hq.elim
    | brk => exact hq.elim
    | cont => exact hq.elim
theorem pe_callG (F : FnG X.prog X.w X.K X.mg X.base CX k f fd ps sp) (ng : X.A.guards = some []) (hr : Room k X.A)
    (hg : Gl X x) (hm : X.mg x = some (.ref f)) (hk : PySem.W.keepIn X.K (.ref f) = true) (hb : Binds X.K fd ps ds)
    (hd : Vals dvs ds) (hx : Passes CX X E) (ha : PA X (e :: es) t) (hdb : (x == ("__debug__" : Str)) = false := by decide)
    (he : starEach (e :: es) X.env = (false, eval e X.env) :: starEach es X.env := by rfl)
    (hpl : (backTo pos (starEach es X.env)).any (·.1) = false := by rfl) :
    PE X (.Call (.Name x p) (e :: es) [] pos) (tCall sp dvs E t) := by
  refine ⟨fun pins s σ H Q I h => wpAny_Call_Name_kw (ld_glob I hg hm ?_ hdb)⟩
  exact PySem.W.callWith_K (h₀ := X.base) I.ok.mod.kin hk
    (thn (ha.run pos pins s σ H _ I h) fun us s1 ⟨vs, H1, I1, r, q⟩ => ⟨I1.kIn, run_g F ng hr hb hd hx I1 r q⟩) he hpl
end
/-! ### repr of data -/
section
variable {X : Cx} {pins : List (Addr × Obj)} {σ : L2.St} {H : Hp} {s : Shared}
/-- repr(x): the text of its data -/
def rRepr (K : PySem.W.Frag) : List V → Hp → VK → Prop := fun xs H Q => ∃ (v : V) (d : PyData), xs = [v] ∧ Dp K H v d ∧
  d.showable = true ∧ d.hasDict = false ∧ d.depth ≤ 60 ∧ d.shown.length ≤ sizeLine ∧ Q (.str d.shown) H
/-- repr of a dict of numbers by a text -/
def oneD (z : Str) (n : Int) : PyData := .dict [(.str z, .int n)]
def rReprD : List V → Hp → VK → Prop := fun xs H Q => ∃ (a : Addr) (z : Str) (n : Int), xs = [.ref a] ∧ H a = some (.dK [(Sum.inr z, .int n)]) ∧
  (oneD z n).showable = true ∧ (oneD z n).shown.length ≤ sizeLine ∧ Q (.str (oneD z n).shown) H
end
/-! ### the end of a law whose def is kept by FnG -/
section
variable {P : Program} {w : World} {K : PySem.W.Frag} {mg mb : Str → Option Value} {k : Nat} {fa a : Addr} {fd : FuncData} {x : Str} {sp : Sp} {s1 : Shared} {vs : List Value} {ns : List Int}
/-- what the law's call has to come to -/
def Good (s1 : Shared) : Result → Shared → Prop := fun r s' =>
  r = .ok (.ret (.bool true)) ∧ OldK s1.heap s'.heap ∧ s'.os = s1.os ∧ AllBare s'.gens
theorem law_from (KX : K.In s1.heap) (hns : s1.heap.Ns mainGlobals mg) (hb : s1.heap.Ns builtinsNs mb)
    (hbb : ∀ y : Str, y ≠ "__name__" → mb y = bootBuiltins y) (hlim : s1.heap.NoLimit) (hg : s1.gens = #[])
    (ha : s1.heap.get? a = some { cls := .type "list", data := .seq vs.toArray }) (hr : Room k callerA)
    (F : ∀ base : Heap, K.In base → base.Ns mainGlobals mg → FnG P w K mg base CX0 k fa fd [x] sp)
    (bind : ∀ (s : Shared) (u : Value), BindsTo s fd ⟨[u], []⟩ [(x, u)])
    (H : Hp) (only : Only H) (want : sp [.ref a] H (fun v _ => v = .bl true) fun _ _ _ => False) (hok : HOk P w H s1.heap)
    (alone : ∀ b u, H b = some u → b = a) (apart : ∀ u, H a = some u → K.lookup a = none) :
    codeAny (model P w) callerA (.call (.ref fa) ⟨[.ref a], []⟩) (Good s1) s1 := by
  -- a dict is not the script
  have dct : ∀ {b : Addr} {o : Obj} {es : Array DictEntry} {ep : Nat}, s1.heap.get? b = some o → o.data = .dict es ep → H b = none := by
    intro b o es ep e d
    cases q : H b with
    | none => rfl
    | some u =>
      cases alone b u q
      rw [ha] at e
      cases e
      cases (show Data.seq vs.toArray _ = Data.dict es ep from d)
  have nsB : ∀ {b : Addr} {m : Str → Option Value}, s1.heap.Ns b m → (hidT s1.heap H).Ns b m := by
    rintro b m ⟨o, es, ep, e, d, r⟩
    exact ⟨o, es, ep, hidT_get e (dct e d), d, r⟩
  have inB : K.In (hidT s1.heap H) := by
    intro b o e
    refine hidT_get (KX b o e) ?_
    cases q : H b with
    | none => rfl
    | some u =>
      cases alone b u q
      rw [apart u q] at e
      cases e
  have mod : Mod K mg (hidT s1.heap H) := by
    obtain ⟨mc, l1, l2⟩ := hlim
    exact ⟨inB, nsB hns, ⟨mb, nsB hb, hbb⟩, mc, nsB l1, l2⟩
  have env : Env0 P w K mg (hidT s1.heap H) callerA [] s1 H :=
    ⟨rfl, mod, fun b o e => of_hidT e, Nat.le_of_eq (hidT_size _ _), trivial, fun b hb => absurd (show b ∈ ([] : List Addr) from hb) (by simp), hok, .of_eq hg⟩
  have run := (F _ inB (nsB hns)).goes callerA [] s1 H ⟨[.ref a], []⟩ [.ref a] [.ref a] _ _ rfl hr env (bind s1 (.ref a)) (.cons rfl .nil) want
  refine codeAny_mono run fun r s' h => ?_
  cases r with
  | error e => exact False.elim h
  | ok fl =>
    cases fl with
    | next => exact False.elim h
    | brk => exact False.elim h
    | cont => exact False.elim h
    | ret u =>
      obtain ⟨v, H', os, bare, un, hok', rv, q⟩ := h
      cases (show v = V.bl true from q)
      obtain rfl : u = Value.bool true := rv
      refine ⟨rfl, OldK.of_keep fun b o e => ?_, os, bare⟩
      rcases only b with n | ⟨ob, xs, z⟩
      · exact un.keep b o e n (by intro m; exact absurd (show b ∈ ([] : List Addr) from m) (by simp)) (by simp)
      · have then_ := un.frzs b ob _ z
        obtain ⟨e1, _⟩ := hok b _ z
        obtain ⟨e2, _⟩ := hok' b _ then_
        rw [e] at e1
        cases e1
        exact e2
theorem law_callG (KX : K.In s1.heap) (hns : s1.heap.Ns mainGlobals mg) (hb : s1.heap.Ns builtinsNs mb)
    (hbb : ∀ y : Str, y ≠ "__name__" → mb y = bootBuiltins y) (hlim : s1.heap.NoLimit) (hg : s1.gens = #[])
    (ha : s1.heap.get? a = some { cls := .type "list", data := .seq vs.toArray }) (hi : IntsAre vs ns) (hl : ns.length ≤ sizeLine) (hr : Room k callerA)
    (F : ∀ base : Heap, K.In base → base.Ns mainGlobals mg → FnG P w K mg base CX0 k fa fd [x] sp)
    (bind : ∀ (s : Shared) (u : Value), BindsTo s fd ⟨[u], []⟩ [(x, u)])
    (want : ∀ H : Hp, Only H → SqL K H a (ns.map V.int) → sp [.ref a] H (fun v _ => v = .bl true) fun _ _ _ => False) :
    codeAny (model P w) callerA (.call (.ref fa) ⟨[.ref a], []⟩) (Good s1) s1 := by
  have rv := vals_ints hi
  have many := hi.length
  cases hk : K.lookup a with
  | some o =>
    have e := KX a o hk
    rw [ha] at e
    cases e
    have o0 : Only fun _ => none := fun _ => .inl rfl
    refine law_from KX hns hb hbb hlim hg ha hr F bind (fun _ => none) o0 (want _ o0 (.inr ?_)) (fun b u z => by cases (show (none : Option HO) = some u from z)) (fun b u z => by cases (show (none : Option HO) = some u from z)) (fun u z => by cases (show (none : Option HO) = some u from z))
    exact ⟨_, vs.toArray, _, hk, rfl, rfl, rfl, by rw [List.size_toArray, many]; exact hl, by simpa using rv⟩
  | none =>
    have o1 : Only fun b => if b = a then some (.frz { cls := .type "list", data := .seq vs.toArray } (.lst (ns.map V.int))) else none := by
      intro b
      by_cases h : b = a
      · exact .inr ⟨_, _, if_pos h⟩
      · exact .inl (if_neg h)
    refine law_from KX hns hb hbb hlim hg ha hr F bind _ o1 (want _ o1 (.inl (.inr ⟨{ cls := .type "list", data := .seq vs.toArray }, if_pos rfl⟩))) (fun b u z => ?_) (fun b u z => ?_) fun _ _ => hk
    · by_cases h : b = a
      · subst h
        cases (if_pos rfl).symm.trans z
        exact ⟨ha, by rw [List.length_map]; exact hl, vs, _, rv, ha⟩
      · cases (if_neg h).symm.trans z
    · by_cases h : b = a
      · exact h
      · cases (if_neg h).symm.trans z
end
theorem walk_G {l : PySem.W.OpenLaw} {n k : Nat} {q : Program} {loose : List Str} {XP : (Str → Option Value) → Heap → Prop} {YP : World → Heap → Prop} {d : DefRec} {x : Str}
    (hn : l.most = some n) (small : n ≤ sizeLine) (nod : d.params.defaults = []) (hr : Room k callerA)
    (F : ∀ (w : World) (mg : Str → Option Value) (fa : Addr) (h : Heap), YP w h → h.Ns mainGlobals mg → mg d.name = some (.ref fa) →
      ∃ (K : PySem.W.Frag) (fd : FuncData) (sp : Sp), K.In h ∧ (∀ (s : Shared) (u : Value), BindsTo s fd ⟨[u], []⟩ [(x, u)]) ∧
        (∀ (H : Hp) (a : Addr) (ns : List Int), ns.length ≤ n → Only H → SqL K H a (ns.map V.int) → sp [.ref a] H (fun v _ => v = .bl true) fun _ _ _ => False) ∧
        ∀ base : Heap, K.In base → base.Ns mainGlobals mg → FnG l.prog w K mg base CX0 k fa fd [x] sp) :
    PySem.W.WalkO q loose XP YP l.row.toRowW d [] (fun f vs => PySem.call f vs) := by
  refine Att.attach_call hn nod fun w s₀ s₁ mg mb fa o pm cd doc a vs ns G Y ho hd hcd hmg hobj hints hlen hg => ?_
  obtain ⟨K, fd, sp, KX, bind, want, FF⟩ := F w mg fa _ Y G.T.g hmg
  exact law_callG KX G.T.g G.T.b G.T.builtins G.T.nolimit hg hobj hints (Nat.le_trans hlen small) hr FF bind fun H hO hS => want H a ns hlen hO hS
end AP
set_option maxHeartbeats 4000000
/-! An error's class called with its one keyword. -/
namespace PySem
end PySem
set_option maxHeartbeats 4000000
/-! Errors with an own __init__ as values: made, their kinds asked, their field read. -/
namespace AP
open PySem PySem.Spec PyProof.Rows L2
/-! ### C(..) as a value -/
/-- what of the text an error's class has: its own line, its __init__ at fI -/
structure ErrC (K : PySem.W.Frag) (C fI : Addr) : Prop where
  o : OexC K C
  iC : PySem.W.findIn K (.ref C) "__init__" = some (some (.ref fI))
  tI : PySem.W.typeIn K (.ref fI) = some (.type "function")
/-- the promise of an error's __init__: the field is set -/
def spErr (C : Addr) : Sp := fun vs H Q _ => ∃ (a : Addr) (v : V), vs = [.ref a, v] ∧ H a = some (exo a C none) ∧
  ∀ d, H d = none → d ≠ a → Q .non (upd (upd H d (exd d [("value", v)])) a (exo a C (some d)))
/-- at x an error of the class at C with this value -/
def IsErr (C : Addr) (v x : V) (H : Hp) : Prop := ∃ a d, x = .ref a ∧ H a = some (exo a C (some d)) ∧ H d = some (exd d [("value", v)])
theorem IsErr.ex {C : Addr} {v x : V} {H H' : Hp} (e : Evl.Ex H H') (h : IsErr C v x H) : IsErr C v x H' := by
  obtain ⟨a, d, q, h1, h2⟩ := h
  exact ⟨a, d, q, e _ _ h1, e _ _ h2⟩
section
variable {X : Cx} {C fI : Addr} {k : Nat} {fd : FuncData} {x : Str} {p pos : Pos} {e : Expr} {te : TE}
variable {pins : List (Addr × Obj)} {σ : L2.St} {H : Hp} {s s' : Shared} {Q : VK}
/-! ### the __init__ -/
/-- D.__init__(self, ..), D an own class whose __init__ is ValueError's -/
structure BaseI (K : PySem.W.Frag) (D : Addr) : Prop where
  rd : PySem.W.readsIn K D (.type "type") = true
  ga : PySem.W.specialIn K (.ref D) "__getattribute__" = some (some (.builtin "type.__getattribute__"))
  at_ : PySem.W.findCls K (.ref D) (.type "type") "__init__" = some (.val (.builtin "ValueError.__init__"))
theorem pe_ceinit {p1 p2 : Pos} {D : Addr} {es : List Expr} {ta : TA} {pl : Sem Bool} (hg : Gl X x) (hm : X.mg x = some (.ref D)) (B : BaseI X.K D) (ha : PA X (e :: es) ta)
    (hdb : (x == ("__debug__" : Str)) = false := by decide)
    (hc : eval (.Call (.Attribute (.Name x p1) "__init__" p2) (e :: es) [] pos) X.env = (do
      let ov ← eval (.Name x p1) X.env
      standAt p2.atName
      let (f, first) ← holding [ov] (getMethod ov "__init__" pl)
      callWith pos f first (backTo pos (starEach (e :: es) X.env)) (backToKw pos (keywordEach [] X.env))) := by rfl)
    (he : starEach (e :: es) X.env = (false, eval e X.env) :: starEach es X.env := by rfl) (hpl : (backTo pos (starEach es X.env)).any (·.1) = false := by rfl) :
    PE X (.Call (.Attribute (.Name x p1) "__init__" p2) (e :: es) [] pos) (tVeI X.K ta) := by
  refine ⟨fun pins s σ H Q I h => PySem.W.methodCall_KW (ld_glob I hg hm ?_ hdb) hc⟩
  refine PySem.W.method_cls I.kIn B.ga (PySem.W.cls_value I.kIn B.rd B.at_ (by decide +kernel) ?_)
  show wpAny _ _ (callWith pos (Value.builtin "ValueError.__init__") [] (backTo pos (starEach (e :: es) X.env)) []) _ _ _
  refine PyProof.Rows.callWith_method1 (thn (ha.run pos pins _ σ H _ (I.tok _) h) fun us s1 hs => ?_) he hpl
  obtain ⟨vs, H1, I1, r1, a, C, ws, rfl, many, T, ea, q⟩ := hs
  cases r1 with
  | @cons _ u0 _ ur ra rw' =>
    obtain rfl : u0 = Value.ref a := ra
    have small : ur.length ≤ sizeLine := by
      rw [← Paired.length rw', sizeLine_eq]
      omega
    exact oinit_ok T I1 ea small fun s' J => ⟨.non, H1, J, rfl, q⟩
/-! ### isinstance, the field -/
/-- what isinstance and reads of fields want of an error's class -/
structure ErrK (K : PySem.W.Frag) (C : Addr) : Prop where
  cl : (PySem.W.clsIn K C).isSome = true
  ga : PySem.W.findIn K (.ref C) "__getattribute__" = some (some (.builtin "BaseException.__getattribute__"))
  gt : PySem.W.findIn K (.ref C) "__getattr__" = some none
  sub : PySem.W.subIn K (.ref C) (.type "BaseException") = some true
  ha : PySem.W.findIn K (.ref C) "__class__" = some (some (.builtin "object.__class__"))
  hn : PySem.W.specialIn K (.builtin "object.__class__") "__get__" = some (some (.builtin "getset_descriptor.__get__"))
  tk : PySem.W.takesIn K (.builtin "object.__class__") = some true
  hm : PySem.W.mroIn K C (.type "object") = some true
end
end AP
/-! ### the promises of the draws -/
namespace AP
open PySem PySem.Spec PyProof.Rows L2
theorem rest_of (x : Int) {n : Int} (h : 0 < n) : ∃ r, x % n = r ∧ 0 ≤ r ∧ r < n :=
  ⟨x % n, rfl, Int.emod_nonneg _ (by omega), Int.emod_lt_of_pos _ h⟩
theorem bits_small {b : Int} (h : 0 < b) (hb : b.natAbs < 2 ^ 8999) : (Builtin.Int.intBits b : Int) ≤ 8999 := by
  have := PyProof.Rows.intBits_le hb
  omega
theorem cut_ints (ns : List Int) (lo hi : Option Int) : ∃ ms : List Int, cutV (ns.map V.int) lo hi = ms.map V.int := by
  unfold cutV
  exact ⟨_, by rw [← List.map_drop, ← List.map_take]⟩
theorem pow_a : PowOk 10 18 := ⟨by decide, by decide +kernel⟩
theorem pow_b : PowOk 10 60 := ⟨by decide, by decide +kernel⟩
theorem pow_c : PowOk (10 ^ (60 : Int).toNat) 10 := ⟨by decide, by decide +kernel⟩
theorem pow_d : (0 : Int) < (10 ^ (60 : Int).toNat) ^ (10 : Int).toNat := by decide +kernel
/-- some number below 2 ** 31 -/
def spHash : Sp := fun vs H Q _ => ∃ s i : Int, vs = [.int s, .int i] ∧ 0 ≤ i ∧ i < 2 ^ 60 ∧ ∀ n : Int, 0 ≤ n → n < 2147483648 → Q (.int n) H
/-- a number below the bound; nothing changes but the generator -/
def spRandom : Sp := fun vs H Q _ => ∃ (g : Addr) (b x y z : Int), vs = [.ref g, .int b] ∧
  (H g = some (.lst [.int x, .int y, .int z]) ∧ 0 ≤ x ∧ 0 ≤ y ∧ 0 ≤ z ∧ z < 2 ^ 50) ∧ 0 < b ∧ b.natAbs < 2 ^ 8999 ∧
  ∀ (n x' z' : Int) (H' : Hp), 0 ≤ n → n < b → (H' g = some (.lst [.int x', .int y, .int z']) ∧ 0 ≤ x' ∧ 0 ≤ y ∧ 0 ≤ z' ∧ z' ≤ z + 300) →
    (∀ a, a ≠ g → H' a = H a) → z ≤ z' → Q (.int n) H'
/-- some number -/
def spCellA (K : PySem.W.Frag) : Sp := fun vs H Q _ => ∃ (a : Addr) (ns : List Int) (i : Nat), vs = [.ref a, .int i] ∧ SqL K H a (ns.map V.int) ∧
  ∀ (n : Int) (H' : Hp), Evl.Ex H H' → Q (.int n) H'
/-- a new generator -/
def spGenerator (K : PySem.W.Frag) : Sp := fun vs H Q _ => ∃ (a : Addr) (ns : List Int) (i : Nat), vs = [.ref a, .int i] ∧ SqL K H a (ns.map V.int) ∧ i ≤ 1000 ∧
  ∀ (p : Addr) (H' : Hp), H p = none → Evl.Ex H H' → (∃ x y z : Int, H' p = some (.lst [.int x, .int y, .int z]) ∧ 0 ≤ x ∧ (0 ≤ y ∧ y < 2147483648) ∧ 0 ≤ z ∧ z ≤ 1000000) → Q (.ref p) H'
end AP
set_option maxHeartbeats 4000000
/-! What evaluates to something of which a thing is told. -/
namespace AP
open PySem PySem.Spec PyProof.Rows L2 Evl
abbrev VP := V → Hp → Prop
/-- what stays when objects come beside -/
def Stays (P : VP) : Prop := ∀ x H H', Ex H H' → P x H → P x H'
/-- the values are told one by one -/
inductive Alls (H : Hp) : List VP → List V → Prop
  | nil : Alls H [] []
  | cons {P : VP} {Ps : List VP} {x : V} {xs : List V} : Stays P → P x H → Alls H Ps xs → Alls H (P :: Ps) (x :: xs)
theorem Alls.ex {H H' : Hp} (e : Ex H H') : ∀ {Ps : List VP} {xs : List V}, Alls H Ps xs → Alls H' Ps xs
  | _, _, .nil => .nil
  | _, _, .cons st h r => .cons st (st _ _ _ e h) (Alls.ex e r)
theorem Alls.app {H : Hp} : ∀ {Ps Qs : List VP} {xs ys : List V}, Alls H Ps xs → Alls H Qs ys → Alls H (Ps ++ Qs) (xs ++ ys)
  | _, _, _, _, .nil, h => h
  | _, _, _, _, .cons st h r, k => .cons st h (Alls.app r k)
theorem Alls.len {H : Hp} : ∀ {Ps : List VP} {xs : List V}, Alls H Ps xs → xs.length = Ps.length
  | _, _, .nil => rfl
  | _, _, .cons _ _ r => congrArg Nat.succ (Alls.len r)
theorem Alls.get {H : Hp} : ∀ {Ps : List VP} {xs : List V}, Alls H Ps xs → ∀ {i : Nat} {x : V}, xs[i]? = some x → ∃ P, Ps[i]? = some P ∧ P x H
  | _, _, .nil, _, _, h => by cases h
  | _, _, .cons _ h r, 0, _, e => by cases e; exact ⟨_, rfl, h⟩
  | _, _, .cons _ h r, i + 1, _, e => Alls.get r (i := i) e
def Evp (te : TE) (σ : L2.St) (H : Hp) (P : VP) : Prop := ∀ H1, Ex H H1 → ∀ Q : VK, (∀ x H2, Ex H1 H2 → P x H2 → Q x H2) → te σ H1 Q
section
variable {K : PySem.W.Frag} {σ : L2.St} {H H' : Hp} {ta tb te : TE} {P : VP} {Ps Qs : List VP} {v : V} {tr : TA} {D : Ends} {tz : TS}
theorem Evp.of (h : Ev te σ H v) : Evp te σ H fun x _ => x = v := fun H1 e Q q => h H1 e Q fun H2 e2 => q v H2 e2 rfl
/-! ### isinstance, fields, equality, repr, as what evaluates -/
/-- at a an error of the class at C, whatever it carries -/
def SomeErr (C a : Addr) (H : Hp) : Prop := (∃ d fs, H a = some (exo a C (some d)) ∧ H d = some (exd d fs)) ∨ H a = some (ExO (.ref C) a)
theorem SomeErr.ex {C a : Addr} (e : Ex H H') (h : SomeErr C a H) : SomeErr C a H' := by
  rcases h with ⟨d, fs, h1, h2⟩ | h
  · exact .inl ⟨d, fs, e _ _ h1, e _ _ h2⟩
  · exact .inr (e _ _ h)
end
/-- a value that shows and that is equal to itself -/
def Fine (K : PySem.W.Frag) (v : V) (H : Hp) : Prop :=
  (∃ d, Dp K H v d ∧ SeqAt.shaped d = true ∧ d.showable = true ∧ d.hasDict = false ∧ d.depth ≤ 60 ∧ d.shown.length ≤ sizeLine) ∨
    ∃ (a : Addr) (z : Str) (n : Int), v = .ref a ∧ H a = some (.dK [(Sum.inr z, .int n)]) ∧ (oneD z n).showable = true ∧ (oneD z n).shown.length ≤ sizeLine
mutual
theorem dp_ex {K : PySem.W.Frag} {H H' : Hp} (e : Ex H H') : ∀ {v : V} {d : PyData}, Dp K H v d → Dp K H' v d
  | _, _, .non => .non
  | _, _, .bl b => .bl b
  | _, _, .int i => .int i
  | _, _, .str x => .str x
  | _, _, .lst h k => .lst (ex_l e h) (dpAll_ex e k)
  | _, _, .tup h k => .tup (ex_t e h) (dpAll_ex e k)
theorem dpAll_ex {K : PySem.W.Frag} {H H' : Hp} (e : Ex H H') : ∀ {vs : List V} {ds : List PyData}, DpAll K H vs ds → DpAll K H' vs ds
  | _, _, .nil => .nil
  | _, _, .cons h k => .cons (dp_ex e h) (dpAll_ex e k)
end
theorem Fine.ex {K : PySem.W.Frag} {v : V} {H H' : Hp} (e : Ex H H') (h : Fine K v H) : Fine K v H' := by
  rcases h with ⟨d, h, r⟩ | ⟨a, z, n, q, h, r⟩
  · exact .inl ⟨d, dp_ex e h, r⟩
  · exact .inr ⟨a, z, n, q, e _ _ h, r⟩
/-- repr of such a value -/
abbrev rRep (K : PySem.W.Frag) : List V → Hp → VK → Prop := fun xs H Q => rRepr K xs H Q ∨ rReprD xs H Q
def shownF (K : PySem.W.Frag) (v : V) (t : Str) (H : Hp) : Prop := ∀ H', Ex H H' → ∀ Q : VK, Q (.str t) H' → rRep K [v] H' Q
theorem Fine.shown {K : PySem.W.Frag} {v : V} {H : Hp} (h : Fine K v H) : ∃ t, shownF K v t H := by
  rcases h with ⟨d, h, s1, s2, s3, s4, s5⟩ | ⟨a, z, n, rfl, h, s1, s2⟩
  · exact ⟨d.shown, fun H' e Q q => .inl ⟨v, d, rfl, dp_ex e h, s2, s3, s4, s5, q⟩⟩
  · exact ⟨(oneD z n).shown, fun H' e Q q => .inr ⟨a, z, n, rfl, e _ _ h, s1, s2, q⟩⟩
/-- == of a value with itself -/
def rEqDict : R2 := fun x y H Q => ∃ a b kvs, x = .ref a ∧ y = .ref b ∧ H a = some (.dK kvs) ∧ H b = some (.dK kvs) ∧ (kvs.map (·.1)).Nodup ∧ (∀ p ∈ kvs, flatB p.2 = true) ∧ Q (.bl true) H
abbrev rSame (K : PySem.W.Frag) : R2 := fun x y H Q => rEqD K x y H Q ∨ rEqDict x y H Q
theorem Fine.same {K : PySem.W.Frag} {v : V} {H : Hp} (h : Fine K v H) : RV (rSame K) v v H (.bl true) := fun H1 e Q q => by
  rcases h with ⟨d, h, s1, _⟩ | ⟨a, z, n, rfl, h, _⟩
  · refine .inl ⟨d, d, dp_ex e h, dp_ex e h, s1, s1, ?_⟩
    rw [SeqAt.eqv_refl d (SeqAt.canLay_of_shaped s1)]
    exact q H1 (Ex.refl H1)
  · exact .inr ⟨a, a, _, rfl, rfl, e _ _ h, e _ _ h, by simp, by simp [flatB], q H1 (Ex.refl H1)⟩
/-! ### loops over enumerate -/
/-! ### an error without an __init__ of its own -/
end AP
set_option maxHeartbeats 4000000
/-! What an expression evaluates to, told by values of Lean's own: the heap stands behind. -/
namespace AP
open PySem PySem.Spec PyProof.Rows L2 Evl
/-! ### the state: what stays (B), the generator of draws, how many draws there were -/
def Gn (g : Addr) (z : Int) (H : Hp) : Prop := ∃ x y : Int, H g = some (.lst [.int x, .int y, .int z]) ∧ 0 ≤ x ∧ 0 ≤ y ∧ y < 2147483648 ∧ 0 ≤ z
structure At (G : Option Addr) (z : Int) (B H : Hp) : Prop where
  ex : Ex B H
  gen : ∀ g, G = some g → B g = none ∧ Gn g z H
/-- not there before, or a tuple that was -/
def NewT (H : Hp) (a : Addr) (o : HO) : Prop := H a = none ∨ ∃ xs, o = .tup xs ∧ H a = some o
theorem NewT.no {H : Hp} {a : Addr} {o u : HO} (h : NewT H a o) (hl : H a = some u) (nt : ∀ xs, u ≠ .tup xs := by intro _ q; cases q) : False := by
  rcases h with h | ⟨xs, e, h⟩
  · rw [hl] at h; cases h
  · rw [hl] at h; cases h; exact nt xs e
theorem NewT.back {H H1 : Hp} {b : Addr} {o : HO} (h : NewT H1 b o) (e : Ex H H1) : NewT H b o := by
  cases q : H b with
  | none => exact .inl q
  | some u =>
    have q1 := e b u q
    rcases h with h | ⟨xs, r, h⟩
    · rw [q1] at h; cases h
    · rw [q1] at h; cases h; exact .inr ⟨xs, r, q⟩
structure Nx (G : Option Addr) (c : Nat) (z : Int) (B H : Hp) (z' : Int) (B' H' : Hp) : Prop where
  at_ : At G z' B' H'
  up : Ex B B'
  new : ∀ a o, B' a = some o → B a = some o ∨ NewT H a o
  lo : z ≤ z'
  hi : z' ≤ z + c
  keep : ∀ a o, G ≠ some a → H a = some o → H' a = some o
section
variable {G : Option Addr} {c c1 c2 : Nat} {z z' z0 z1 z2 : Int} {B B' H H' B0 H0 B1 H1 B2 H2 : Hp}
theorem Nx.refl (s : At G z B H) : Nx G 0 z B H z B H := ⟨s, Ex.refl B, fun _ _ h => .inl h, by omega, by omega, fun _ _ _ h => h⟩
theorem Nx.gone (a : Nx G c z B H z' B' H') (s : At G z B H) {x : Addr} (h : H' x = none) : H x = none := by
  cases e : H x with
  | none => rfl
  | some o =>
    by_cases hg : G = some x
    · obtain ⟨_, _, _, q, _⟩ := a.at_.gen x hg
      rw [q] at h
      cases h
    · rw [a.keep x o hg e] at h
      cases h
theorem Nx.trans (s : At G z0 B0 H0) (a : Nx G c1 z0 B0 H0 z1 B1 H1) (b : Nx G c2 z1 B1 H1 z2 B2 H2) : Nx G (c1 + c2) z0 B0 H0 z2 B2 H2 := by
  refine ⟨b.at_, a.up.trans b.up, fun x o h => ?_, Int.le_trans a.lo b.lo, ?_, fun x o hg h => b.keep x o hg (a.keep x o hg h)⟩
  · rcases b.new x o h with h | h
    · exact a.new x o h
    · rcases h with h | ⟨xs, e, h⟩
      · exact .inr (.inl (a.gone s h))
      · cases q : H0 x with
        | none => exact .inr (.inl q)
        | some u =>
          by_cases hg : G = some x
          · obtain ⟨_, _, _, q2, _⟩ := a.at_.gen x hg
            rw [h, e] at q2
            cases q2
          · have := a.keep x u hg q
            rw [h] at this
            cases this
            exact .inr (.inr ⟨xs, e, q⟩)
  · have := a.hi
    have := b.hi
    omega
theorem Nx.le (a : Nx G c1 z B H z' B' H') (h : c1 ≤ c2) : Nx G c2 z B H z' B' H' := ⟨a.at_, a.up, a.new, a.lo, by have := a.hi; omega, a.keep⟩
theorem Nx.alloc {p : Addr} {o : HO} (s : At G z B H) (h : H p = none) : Nx G 0 z B H z (upd B p o) (upd H p o) := by
  have hB : B p = none := by
    cases e : B p with
    | none => rfl
    | some u => rw [s.ex p u e] at h; cases h
  refine ⟨⟨fun a u e => ?_, fun g hg => ?_⟩, Ex.new hB, fun a u e => ?_, by omega, by omega, fun a u _ e => Ex.new h a u e⟩
  · by_cases ha : a = p
    · subst ha
      rw [upd_same] at e ⊢
      exact e
    · rw [upd_ne ha] at e ⊢
      exact s.ex a u e
  · obtain ⟨h1, x, y, q, r⟩ := s.gen g hg
    have ne : g ≠ p := ne_of_none q h
    exact ⟨by rw [upd_ne ne]; exact h1, x, y, by rw [upd_ne ne]; exact q, r⟩
  · by_cases ha : a = p
    · subst ha
      exact .inr (.inl h)
    · rw [upd_ne ha] at e
      exact .inl e
/-- more in the heap, nothing new that is known -/
theorem Nx.more (s : At G z B H) (e : Ex H H') : Nx G 0 z B H z B H' :=
  ⟨⟨s.ex.trans e, fun g hg => ⟨(s.gen g hg).1, by obtain ⟨_, x, y, q, r⟩ := s.gen g hg; exact ⟨x, y, e _ _ q, r⟩⟩⟩, Ex.refl B, fun _ _ h => .inl h, by omega, by omega, fun a o _ h => e a o h⟩
end
/-! ### values of Lean for values of Python -/
class Py (α : Type) where
  is : α → V → Hp → Prop
  st : ∀ (x : α) (v : V) (B B' : Hp), Ex B B' → is x v B → is x v B'
theorem Py.stays {α : Type} [Py α] (x : α) : Stays (Py.is x) := fun v B B' e h => Py.st x v B B' e h
instance : Py Int := ⟨fun n v _ => v = .int n, fun _ _ _ _ _ h => h⟩
instance : Py Bool := ⟨fun n v _ => v = .bl n, fun _ _ _ _ _ h => h⟩
instance : Py Str := ⟨fun n v _ => v = .str n, fun _ _ _ _ _ h => h⟩
instance : Py Unit := ⟨fun _ v _ => v = .non, fun _ _ _ _ _ h => h⟩
inductive Each {α : Type} [Py α] (B : Hp) : List α → List V → Prop
  | nil : Each B [] []
  | cons {x : α} {v : V} {xs : List α} {vs : List V} : Py.is x v B → Each B xs vs → Each B (x :: xs) (v :: vs)
section
variable {α β : Type} [Py α] [Py β]
theorem Each.ex {B B' : Hp} (e : Ex B B') : ∀ {xs : List α} {vs : List V}, Each B xs vs → Each B' xs vs
  | _, _, .nil => .nil
  | _, _, .cons h r => .cons (Py.st _ _ _ _ e h) (Each.ex e r)
theorem Each.len {B : Hp} : ∀ {xs : List α} {vs : List V}, Each B xs vs → vs.length = xs.length
  | _, _, .nil => rfl
  | _, _, .cons _ r => congrArg Nat.succ (Each.len r)
theorem Each.app {B : Hp} : ∀ {xs ys : List α} {vs ws : List V}, Each B xs vs → Each B ys ws → Each B (xs ++ ys) (vs ++ ws)
  | _, _, _, _, .nil, h => h
  | _, _, _, _, .cons h r, k => .cons h (Each.app r k)
theorem Each.get {B : Hp} : ∀ {xs : List α} {vs : List V}, Each B xs vs → ∀ {i : Nat} {x : α}, xs[i]? = some x → ∃ v, vs[i]? = some v ∧ Py.is x v B
  | _, _, .nil, _, _, h => by cases h
  | _, _, .cons h r, 0, _, e => by cases e; exact ⟨_, rfl, h⟩
  | _, _, .cons _ r, i + 1, _, e => Each.get r (i := i) e
theorem Each.got {B : Hp} : ∀ {xs : List α} {vs : List V}, Each B xs vs → ∀ {i : Nat} {v : V}, vs[i]? = some v → ∃ x, xs[i]? = some x ∧ Py.is x v B
  | _, _, .nil, _, _, h => by cases h
  | _, _, .cons h r, 0, _, e => by cases e; exact ⟨_, rfl, h⟩
  | _, _, .cons _ r, i + 1, _, e => Each.got r (i := i) e
theorem Each.drop {B : Hp} : ∀ (n : Nat) {xs : List α} {vs : List V}, Each B xs vs → Each B (xs.drop n) (vs.drop n)
  | 0, _, _, h => h
  | n + 1, _, _, .nil => .nil
  | n + 1, _, _, .cons _ r => Each.drop n r
theorem Each.take {B : Hp} : ∀ (n : Nat) {xs : List α} {vs : List V}, Each B xs vs → Each B (xs.take n) (vs.take n)
  | 0, _, _, _ => .nil
  | n + 1, _, _, .nil => .nil
  | n + 1, _, _, .cons h r => .cons h (Each.take n r)
theorem Each.snoc {B : Hp} {xs : List α} {vs : List V} {x : α} {v : V} (h : Each B xs vs) (k : Py.is x v B) : Each B (xs ++ [x]) (vs ++ [v]) := h.app (.cons k .nil)
theorem Each.rev {B : Hp} : ∀ {xs : List α} {vs : List V}, Each B xs vs → Each B xs.reverse vs.reverse
  | _, _, .nil => .nil
  | _, _, .cons h r => by
    rw [List.reverse_cons, List.reverse_cons]
    exact (Each.rev r).snoc h
theorem Each.ints {B : Hp} : ∀ {ns : List Int} {vs : List V}, Each B ns vs → vs = ns.map V.int
  | _, _, .nil => rfl
  | _, _, .cons h r => by
    rw [List.map_cons, ← Each.ints r, ← (show _ = V.int _ from h)]
theorem Each.bls {B : Hp} : ∀ {ns : List Bool} {vs : List V}, Each B ns vs → vs = ns.map V.bl
  | _, _, .nil => rfl
  | _, _, .cons h r => by
    rw [List.map_cons, ← Each.bls r, ← (show _ = V.bl _ from h)]
theorem Each.of_ints {B : Hp} : ∀ (ns : List Int), Each B ns (ns.map V.int)
  | [] => .nil
  | _ :: r => .cons rfl (Each.of_ints r)
instance : Py (List α) := ⟨fun xs v B => ∃ p vs, v = .ref p ∧ B p = some (.lst vs) ∧ Each B xs vs, fun _ _ _ _ e ⟨p, vs, h1, h2, h3⟩ => ⟨p, vs, h1, e _ _ h2, h3.ex e⟩⟩
instance : Py (α × β) := ⟨fun x v B => ∃ p a b, v = .ref p ∧ B p = some (.tup [a, b]) ∧ Py.is x.1 a B ∧ Py.is x.2 b B, fun _ _ _ _ e ⟨p, a, b, h1, h2, h3, h4⟩ => ⟨p, a, b, h1, e _ _ h2, Py.st _ _ _ _ e h3, Py.st _ _ _ _ e h4⟩⟩
end
theorem Py.ints {ns : List Int} {v : V} {B : Hp} (h : Py.is ns v B) : ∃ p, v = .ref p ∧ B p = some (.lst (ns.map V.int)) := by
  obtain ⟨p, vs, e1, e2, e3⟩ := h
  rw [e3.ints] at e2
  exact ⟨p, e1, e2⟩
/-- the generator -/
structure GenR where
  at_ : Addr
instance : Py GenR := ⟨fun r v _ => v = .ref r.at_, fun _ _ _ _ _ h => h⟩
/-! ### what the slots hold -/
abbrev Ctx := List (Option VP)
structure Slo (B : Hp) (σ : L2.St) (Γ : Ctx) : Prop where
  len : σ.length = Γ.length
  all : ∀ (i : Nat) (P : VP), Γ[i]? = some (some P) → ∃ v, σ[i]? = some (some v) ∧ Stays P ∧ P v B
section
variable {B B' : Hp} {σ : L2.St} {Γ : Ctx} {P : VP} {v : V} {i : Nat}
theorem Slo.up (e : Ex B B') (h : Slo B σ Γ) : Slo B' σ Γ := ⟨h.len, fun i P q => by
  obtain ⟨v, h1, h2, h3⟩ := h.all i P q
  exact ⟨v, h1, h2, h2 _ _ _ e h3⟩⟩
theorem Slo.set (h : Slo B σ Γ) (st : Stays P) (p : P v B) : Slo B (σ.set i (some v)) (Γ.set i (some P)) := ⟨by rw [List.length_set, List.length_set, h.len], fun j R q => by
  by_cases e : i = j
  · subst e
    by_cases lt : i < Γ.length
    · rw [List.getElem?_set_self lt] at q
      cases q
      exact ⟨v, List.getElem?_set_self (by rw [h.len]; exact lt), st, p⟩
    · rw [List.getElem?_eq_none (by rw [List.length_set]; omega)] at q
      cases q
  · rw [List.getElem?_set_ne e] at q
    obtain ⟨w, h1, h2⟩ := h.all j R q
    exact ⟨w, by rw [List.getElem?_set_ne e]; exact h1, h2⟩⟩
theorem Slo.put {α : Type} [Py α] {x : α} (h : Slo B σ Γ) (p : Py.is x v B) : Slo B (σ.set i (some v)) (Γ.set i (some (Py.is x))) := h.set (Py.stays x) p
def wipeC (Γ : Ctx) : List Nat → Ctx
  | [] => Γ
  | v :: vs => (wipeC Γ vs).set v none
theorem Slo.none (h : Slo B σ Γ) {o : Option V} : Slo B (σ.set i o) (Γ.set i Option.none) := ⟨by rw [List.length_set, List.length_set, h.len], fun j R q => by
  by_cases e : i = j
  · subst e
    by_cases lt : i < Γ.length
    · rw [List.getElem?_set_self lt] at q
      cases q
    · rw [List.getElem?_eq_none (by rw [List.length_set]; omega)] at q
      cases q
  · rw [List.getElem?_set_ne e] at q
    obtain ⟨w, h1, h2⟩ := h.all j R q
    exact ⟨w, by rw [List.getElem?_set_ne e]; exact h1, h2⟩⟩
theorem Slo.wipe (h : Slo B σ Γ) : ∀ vs : List Nat, Slo B (L2.wipe σ vs) (wipeC Γ vs)
  | [] => h
  | v :: vs => (Slo.wipe h vs).none
theorem Alls.stays {H : Hp} : ∀ {Ps : List VP} {xs : List V}, Alls H Ps xs → ∀ {i : Nat} {P : VP}, Ps[i]? = some P → ∃ v, xs[i]? = some v ∧ Stays P ∧ P v H
  | _, _, .nil, _, _, h => by cases h
  | _, _, .cons st h r, 0, _, e => by cases e; exact ⟨_, rfl, st, h⟩
  | _, _, .cons _ h r, i + 1, _, e => Alls.stays r (i := i) e
def ctx0 (n : Nat) (Ps : List VP) : Ctx := Ps.map some ++ List.replicate (n - Ps.length) Option.none
theorem Slo.start {N : List Str} {vs : List V} {Ps : List VP} (h : Alls B Ps vs) : Slo B (L2.start N vs) (ctx0 N.length Ps) := by
  have hl := h.len
  refine ⟨?_, fun i P q => ?_⟩
  · unfold L2.start ctx0
    simp [hl]
  · unfold ctx0 at q
    unfold L2.start
    by_cases lt : i < Ps.length
    · rw [List.getElem?_append_left (by rw [List.length_map]; exact lt), List.getElem?_map] at q
      cases e : Ps[i]? with
      | none => rw [e] at q; cases q
      | some R =>
        rw [e] at q
        cases q
        obtain ⟨v, h1, h2⟩ := h.stays e
        exact ⟨v, by rw [List.getElem?_append_left (by rw [List.length_map, hl]; exact lt), List.getElem?_map, h1] <;> rfl, h2⟩
    · rw [List.getElem?_append_right (by rw [List.length_map]; omega)] at q
      rw [List.getElem?_replicate] at q
      split at q <;> cases q
end
/-! ### the judgements -/
def Ty (G : Option Addr) (c : Nat) (te : TE) (Γ : Ctx) {α : Type} [Py α] (A : α → Prop) : Prop :=
  ∀ z B σ H, Slo B σ Γ → At G z B H → z + c ≤ 2 ^ 50 → ∀ Q : VK, (∀ x v z' B' H', A x → Nx G c z B H z' B' H' → Py.is x v B' → Q v H') → te σ H Q
def TyT (G : Option Addr) (c : Nat) (tt : TT) (Γ : Ctx) (A : Bool → Prop) : Prop :=
  ∀ z B σ H, Slo B σ Γ → At G z B H → z + c ≤ 2 ^ 50 → ∀ Q : Bool → Hp → Prop, (∀ b z' B' H', A b → Nx G c z B H z' B' H' → Q b H') → tt σ H Q
def TyA (G : Option Addr) (c : Nat) (ta : TA) (Γ : Ctx) (Ps : List VP) : Prop :=
  ∀ z B σ H, Slo B σ Γ → At G z B H → z + c ≤ 2 ^ 50 → ∀ Q : List V → Hp → Prop, (∀ vs z' B' H', Alls B' Ps vs → Nx G c z B H z' B' H' → Q vs H') → ta σ H Q
/-- some value of these -/
def isA {α : Type} [Py α] (A : α → Prop) : VP := fun v B => ∃ x, A x ∧ Py.is x v B
theorem isA.stays {α : Type} [Py α] (A : α → Prop) : Stays (isA A) := fun _ _ _ e ⟨x, h1, h2⟩ => ⟨x, h1, Py.st _ _ _ _ e h2⟩
/-- a two-place operation on values -/
def Rv (G : Option Addr) (r : R2) (v w : V) (B : Hp) {α : Type} [Py α] (A : α → Prop) : Prop :=
  ∀ z B' H, Ex B B' → At G z B' H → ∀ Q : VK, (∀ x u z' B'' H', A x → Nx G 0 z B' H z' B'' H' → Py.is x u B'' → Q u H') → r v w H Q
def Ru (G : Option Addr) (r : V → Hp → VK → Prop) (v : V) (B : Hp) {α : Type} [Py α] (A : α → Prop) : Prop :=
  ∀ z B' H, Ex B B' → At G z B' H → ∀ Q : VK, (∀ x u z' B'' H', A x → Nx G 0 z B' H z' B'' H' → Py.is x u B'' → Q u H') → r v H Q
def Rc (G : Option Addr) (r : List V → Hp → VK → Prop) (vs : List V) (B : Hp) {α : Type} [Py α] (A : α → Prop) : Prop :=
  ∀ z B' H, Ex B B' → At G z B' H → ∀ Q : VK, (∀ x u z' B'' H', A x → Nx G 0 z B' H z' B'' H' → Py.is x u B'' → Q u H') → r vs H Q
section
variable {G : Option Addr} {c c1 c2 c3 : Nat} {te ta tb tx : TE} {tt tu : TT} {Γ : Ctx} {α β γ : Type} [Py α] [Py β] [Py γ] {A A' : α → Prop} {A1 : β → Prop} {A2 : γ → Prop} {Ps : List VP} {tr : TA}
theorem Ty.imp (h : Ty G c te Γ A) (i : ∀ x, A x → A' x) : Ty G c te Γ A' := fun z B σ H en s hz Q q => h z B σ H en s hz Q fun x v z' B' H' a => q x v z' B' H' (i x a)
theorem Ty.to {x y : α} (h : Ty G c te Γ (· = x)) (e : x = y) : Ty G c te Γ (· = y) := e ▸ h
theorem TyT.to {x y : Bool} (h : TyT G c tt Γ (· = x)) (e : x = y) : TyT G c tt Γ (· = y) := e ▸ h
theorem TyT.imp {A A' : Bool → Prop} (h : TyT G c tt Γ A) (i : ∀ x, A x → A' x) : TyT G c tt Γ A' := fun z B σ H en s hz Q q => h z B σ H en s hz Q fun x z' B' H' a => q x z' B' H' (i x a)
theorem Ty.le (h : Ty G c1 te Γ A) (i : c1 ≤ c2) : Ty G c2 te Γ A := fun z B σ H en s hz Q q => h z B σ H en s (by omega) Q fun x v z' B' H' a n => q x v z' B' H' a (n.le i)
theorem TyT.le {A : Bool → Prop} (h : TyT G c1 tt Γ A) (i : c1 ≤ c2) : TyT G c2 tt Γ A := fun z B σ H en s hz Q q => h z B σ H en s (by omega) Q fun x z' B' H' a n => q x z' B' H' a (n.le i)
theorem ty_var {i : Nat} {x : α} (e : Γ[i]? = some (some (Py.is x))) : Ty G 0 (tVar i) Γ (· = x) := fun z B σ H en s _ Q q => by
  obtain ⟨v, h1, _, h2⟩ := en.all i _ e
  exact ⟨v, h1, q x v z B H rfl (.refl s) h2⟩
theorem ty_i {n : Int} : Ty G 0 (tC (.int n)) Γ (· = n) := fun z B σ H en s _ Q q => q n _ z B H rfl (.refl s) rfl
theorem ty_b {n : Bool} : Ty G 0 (tC (.bl n)) Γ (· = n) := fun z B σ H en s _ Q q => q n _ z B H rfl (.refl s) rfl
theorem ty_n : Ty G 0 (tC .non) Γ (· = ()) := fun z B σ H en s _ Q q => q () _ z B H rfl (.refl s) rfl
theorem ty_s {n : Str} : Ty G 0 (tC (.str n)) Γ (· = n) := fun z B σ H en s _ Q q => q n _ z B H rfl (.refl s) rfl
theorem ty_op {r : R2} (ha : Ty G c1 ta Γ A) (hb : Ty G c2 tb Γ A1) (hr : ∀ x y v w B, A x → A1 y → Py.is x v B → Py.is y w B → Rv G r v w B A2) : Ty G (c1 + c2) (tOp r ta tb) Γ A2 := fun z B σ H en s hz Q q => by
  refine ha z B σ H en s (by omega) _ fun x v z1 B1 H1 ax n1 hv => ?_
  refine hb z1 B1 σ H1 (en.up n1.up) n1.at_ (by have := n1.hi; omega) _ fun y w z2 B2 H2 ay n2 hw => ?_
  refine hr x y v w B2 ax ay (Py.st _ _ _ _ n2.up hv) hw z2 B2 H2 (Ex.refl _) n2.at_ _ fun u m z3 B3 H3 au n3 hm => ?_
  exact q u m z3 B3 H3 au (((n1.trans s n2).trans s n3).le (by omega)) hm
theorem ty_un {r : V → Hp → VK → Prop} (ha : Ty G c ta Γ A) (hr : ∀ x v B, A x → Py.is x v B → Ru G r v B A1) : Ty G c (tUn r ta) Γ A1 := fun z B σ H en s hz Q q => by
  refine ha z B σ H en s hz _ fun x v z1 B1 H1 ax n1 hv => ?_
  refine hr x v B1 ax hv z1 B1 H1 (Ex.refl _) n1.at_ _ fun u m z3 B3 H3 au n3 hm => ?_
  exact q u m z3 B3 H3 au ((n1.trans s n3).le (by omega)) hm
theorem ta_nil : TyA G 0 tNil Γ [] := fun z B σ H en s _ Q q => q [] z B H .nil (.refl s)
theorem ta_consN (h : Ty G c1 te Γ A) (hr : TyA G c2 tr Γ Ps) : TyA G (c1 + c2) (tCons te tr) Γ (isA A :: Ps) := fun z B σ H en s hz Q q => by
  refine h z B σ H en s (by omega) _ fun x v z1 B1 H1 ax n1 hv => ?_
  refine hr z1 B1 σ H1 (en.up n1.up) n1.at_ (by have := n1.hi; omega) _ fun vs z2 B2 H2 al n2 => ?_
  exact q _ z2 B2 H2 (.cons (isA.stays A) ⟨x, ax, Py.st _ _ _ _ n2.up hv⟩ al) (n1.trans s n2)
theorem ta_cons {x : α} (h : Ty G c1 te Γ (· = x)) (hr : TyA G c2 tr Γ Ps) : TyA G (c1 + c2) (tCons te tr) Γ (Py.is x :: Ps) := fun z B σ H en s hz Q q => by
  refine h z B σ H en s (by omega) _ fun y v z1 B1 H1 ax n1 hv => ?_
  subst ax
  refine hr z1 B1 σ H1 (en.up n1.up) n1.at_ (by have := n1.hi; omega) _ fun vs z2 B2 H2 al n2 => ?_
  exact q _ z2 B2 H2 (.cons (Py.stays _) (Py.st _ _ _ _ n2.up hv) al) (n1.trans s n2)
theorem ty_cb {r : List V → Hp → VK → Prop} (ha : TyA G c tr Γ Ps) (hr : ∀ vs B, Alls B Ps vs → Rc G r vs B A) : Ty G c (tCB r tr) Γ A := fun z B σ H en s hz Q q => by
  refine ha z B σ H en s hz _ fun vs z1 B1 H1 al n1 => ?_
  refine hr vs B1 al z1 B1 H1 (Ex.refl _) n1.at_ _ fun u m z3 B3 H3 au n3 hm => ?_
  exact q u m z3 B3 H3 au ((n1.trans s n3).le (by omega)) hm
/-! tests -/
theorem tt_test {A : Bool → Prop} (h : Ty G c te Γ A) : TyT G c (tTest te) Γ A := fun z B σ H en s hz Q q => h z B σ H en s hz _ fun x v z' B' H' ax n hv => ⟨x, hv, q x z' B' H' ax n⟩
theorem tt_B {A : Bool → Prop} (h : Ty G c te Γ A) : TyT G c (tB te) Γ A := fun z B σ H en s hz Q q => h z B σ H en s hz _ fun x v z' B' H' ax n hv => ⟨x, hv, q x z' B' H' ax n⟩
theorem tt_not {A : Bool → Prop} (h : TyT G c tt Γ A) : TyT G c (tNot tt) Γ (fun b => A (!b)) := fun z B σ H en s hz Q q => h z B σ H en s hz _ fun x z' B' H' ax n => q (!x) z' B' H' (by show A (!!x); rw [Bool.not_not]; exact ax) n
theorem tt_notD {b : Bool} (h : TyT G c tt Γ (· = b)) : TyT G c (tNot tt) Γ (· = !b) := (tt_not h).imp fun x e => by rw [← e, Bool.not_not]
theorem tt_yes : TyT G 0 tYes Γ (· = true) := fun z B σ H en s _ Q q => q true z B H rfl (.refl s)
theorem tt_or {a b : Bool} (h1 : TyT G c1 tt Γ (· = a)) (h2 : a = false → TyT G c2 tu Γ (· = b)) : TyT G (c1 + c2) (tOr tt tu) Γ (· = (a || b)) := fun z B σ H en s hz Q q => by
  refine h1 z B σ H en s (by omega) _ fun x z1 B1 H1 ax n1 => ?_
  subst ax
  cases x with
  | false =>
    show tu σ H1 Q
    refine h2 rfl z1 B1 σ H1 (en.up n1.up) n1.at_ (by have := n1.hi; omega) _ fun y z2 B2 H2 ay n2 => ?_
    exact q y z2 B2 H2 ay (n1.trans s n2)
  | true =>
    show Q true H1
    exact q true z1 B1 H1 rfl (n1.le (by omega))
theorem ty_andV {a b : Bool} (h1 : Ty G c1 ta Γ (· = a)) (h2 : a = true → Ty G c2 tb Γ (· = b)) : Ty G (c1 + c2) (tAndV ta tb) Γ (· = (a && b)) := fun z B σ H en s hz Q q => by
  refine h1 z B σ H en s (by omega) _ fun x v z1 B1 H1 ax n1 hv => ?_
  subst ax
  refine ⟨x, hv, ?_⟩
  cases x with
  | true =>
    show tb σ H1 Q
    refine h2 rfl z1 B1 σ H1 (en.up n1.up) n1.at_ (by have := n1.hi; omega) _ fun y w z2 B2 H2 ay n2 hw => ?_
    exact q y w z2 B2 H2 ay (n1.trans s n2) hw
  | false =>
    show Q (.bl false) H1
    exact q false _ z1 B1 H1 rfl (n1.le (by omega)) rfl
theorem ty_notV {a : Bool} (h1 : Ty G c ta Γ (· = a)) : Ty G c (tNotV ta) Γ (· = !a) := fun z B σ H en s hz Q q =>
  h1 z B σ H en s hz _ fun x v z1 B1 H1 ax n1 hv => ⟨x, hv, q (!x) _ z1 B1 H1 (by rw [ax]) n1 rfl⟩
end
end AP
set_option maxHeartbeats 4000000
/-! The rules of W1's judgements for the built-in operations. -/
namespace AP
open PySem PySem.Spec PyProof.Rows L2 Evl
section
variable {K : PySem.W.Frag} {G : Option Addr} {c c1 c2 c3 : Nat} {te ta tb tx : TE} {tt tu : TT} {Γ : Ctx} {α β γ : Type} [Py α] [Py β] [Py γ] {A A' : α → Prop} {A1 : β → Prop} {A2 : γ → Prop} {Ps : List VP} {tr : TA} {i j : Int} {B B' H : Hp} {v w : V}
/-- the same value told otherwise -/
theorem Ty.cast {x : α} {y : β} (h : Ty G c te Γ (· = x)) (k : ∀ v B, Py.is x v B → Py.is y v B) : Ty G c te Γ (· = y) := fun z B σ H en s hz Q q =>
  h z B σ H en s hz Q fun x' v z' B' H' a n hv => q y v z' B' H' rfl n (k v B' (a ▸ hv))
/-! ### ints -/
theorem ty_I0 {f : Int → Int → Int} (ha : Ty G c1 ta Γ (· = i)) (hb : Ty G c2 tb Γ (· = j)) : Ty G (c1 + c2) (tOp (rI0 fun a b => .int (f a b)) ta tb) Γ (· = f i j) :=
  ty_op ha hb fun x y v w B ex ey hv hw z B' H e s Q q => ⟨x, y, hv, hw, q _ _ z B' H (by rw [ex, ey]) (.refl s) rfl⟩
theorem ty_I0N {f : Int → Int → Int} {A A' : Int → Prop} (ha : Ty G c1 ta Γ A) (hb : Ty G c2 tb Γ A') : Ty G (c1 + c2) (tOp (rI0 fun a b => .int (f a b)) ta tb) Γ (fun n => ∃ i j, A i ∧ A' j ∧ n = f i j) :=
  ty_op ha hb fun x y v w B ex ey hv hw z B' H e s Q q => ⟨x, y, hv, hw, q _ _ z B' H ⟨x, y, ex, ey, rfl⟩ (.refl s) rfl⟩
theorem ty_I {C : Int → Int → Prop} {f : Int → Int → Int} (ha : Ty G c1 ta Γ (· = i)) (hb : Ty G c2 tb Γ (· = j)) (hc : C i j) : Ty G (c1 + c2) (tOp (rI C fun a b => .int (f a b)) ta tb) Γ (· = f i j) :=
  ty_op ha hb fun x y v w B ex ey hv hw z B' H e s Q q => ⟨x, y, hv, hw, by rw [ex, ey]; exact hc, q _ _ z B' H (by rw [ex, ey]) (.refl s) rfl⟩
theorem ty_B0 {p : Int → Int → Bool} (ha : Ty G c1 ta Γ (· = i)) (hb : Ty G c2 tb Γ (· = j)) : Ty G (c1 + c2) (tOp (rI0 fun a b => .bl (p a b)) ta tb) Γ (· = p i j) :=
  ty_op ha hb fun x y v w B ex ey hv hw z B' H e s Q q => ⟨x, y, hv, hw, q _ _ z B' H (by rw [ex, ey]) (.refl s) rfl⟩
theorem dec_int' (i j : Int) : decide (V.int i = V.int j) = decide (i = j) := by
  by_cases h : i = j
  · rw [decide_eq_true h, decide_eq_true (congrArg V.int h)]
  · rw [decide_eq_false h, decide_eq_false fun z => h (by injection z)]
theorem ty_eqI (ha : Ty G c1 ta Γ (· = i)) (hb : Ty G c2 tb Γ (· = j)) : Ty G (c1 + c2) (tOp rEq ta tb) Γ (· = decide (i = j)) :=
  ty_op ha hb fun x y v w B ex ey hv hw z B' H e s Q q => by
    subst ex ey
    cases (show v = .int x from hv)
    cases (show w = .int y from hw)
    exact ⟨rfl, q _ _ z B' H rfl (.refl s) (congrArg V.bl (dec_int' x y))⟩
theorem ty_neI (ha : Ty G c1 ta Γ (· = i)) (hb : Ty G c2 tb Γ (· = j)) : Ty G (c1 + c2) (tOp rNe ta tb) Γ (· = !decide (i = j)) :=
  ty_op ha hb fun x y v w B ex ey hv hw z B' H e s Q q => by
    subst ex ey
    cases (show v = .int x from hv)
    cases (show w = .int y from hw)
    exact ⟨rfl, q _ _ z B' H rfl (.refl s) (congrArg (fun b => V.bl !b) (dec_int' x y))⟩
theorem ty_eqS {a b : Str} (ha : Ty G c1 ta Γ (· = a)) (hb : Ty G c2 tb Γ (· = b)) : Ty G (c1 + c2) (tOp rEq ta tb) Γ (· = decide (a = b)) :=
  ty_op ha hb fun x y v w B ex ey hv hw z B' H e s Q q => by
    subst ex ey
    cases (show v = .str x from hv)
    cases (show w = .str y from hw)
    refine ⟨rfl, q _ _ z B' H rfl (.refl s) (congrArg V.bl ?_)⟩
    by_cases h : x = y
    · rw [decide_eq_true h, decide_eq_true (congrArg V.str h)]
    · rw [decide_eq_false h, decide_eq_false fun z => h (by injection z)]
theorem ty_neS {a b : Str} (ha : Ty G c1 ta Γ (· = a)) (hb : Ty G c2 tb Γ (· = b)) : Ty G (c1 + c2) (tOp rNe ta tb) Γ (· = !decide (a = b)) :=
  ty_op ha hb fun x y v w B ex ey hv hw z B' H e s Q q => by
    subst ex ey
    cases (show v = .str x from hv)
    cases (show w = .str y from hw)
    refine ⟨rfl, q _ _ z B' H rfl (.refl s) (congrArg (fun b => V.bl !b) ?_)⟩
    by_cases h : x = y
    · rw [decide_eq_true h, decide_eq_true (congrArg V.str h)]
    · rw [decide_eq_false h, decide_eq_false fun z => h (by injection z)]
theorem ty_neg {i : Int} (ha : Ty G c ta Γ (· = i)) : Ty G c (tUn (rU fun i => .int (-i)) ta) Γ (· = -i) :=
  ty_un ha fun x v B ex hv z B' H e s Q q => ⟨x, hv, q _ _ z B' H (by rw [ex]) (.refl s) rfl⟩
theorem ty_bits (h : Ty G c te Γ (· = i)) : Ty G c (tBits te) Γ (· = ((Builtin.Int.intBits i : Nat) : Int)) := fun z B σ H en s hz Q q =>
  h z B σ H en s hz _ fun x v z' B' H' ex n hv => ⟨x, hv, q _ _ z' B' H' (by rw [ex]) n rfl⟩
/-- is None -/
abbrev rIsN0 : R2 := fun x y H Q => y = .non ∧ Q (.bl (decide (x = .non))) H
theorem ty_isN {b : Bool} {x : α} (ha : Ty G c1 ta Γ (· = x)) (hx : ∀ v B, Py.is x v B → decide (v = .non) = b) : Ty G (c1 + 0) (tOp rIsN0 ta (tC .non)) Γ (· = b) :=
  ty_op ha ty_n fun x' y v w B ex ey hv hw z B' H e s Q q => ⟨hw, q _ _ z B' H rfl (.refl s) (congrArg V.bl (hx v B (ex ▸ hv)))⟩
theorem ty_isB {a b : Bool} (ha : Ty G c1 ta Γ (· = a)) (hb : Ty G c2 tb Γ (· = b)) : Ty G (c1 + c2) (tOp rIsB ta tb) Γ (· = decide (a = b)) :=
  ty_op ha hb fun x y v w B ex ey hv hw z B' H e s Q q => ⟨x, y, hv, hw, q _ _ z B' H (by rw [ex, ey]) (.refl s) rfl⟩
/-! chains -/
theorem ty_chain {p p' : Int → Int → Bool} {k : Int} {tc : TE} (ha : Ty G c1 ta Γ (· = i)) (hb : Ty G c2 tb Γ (· = j)) (hc : Ty G c3 tc Γ (· = k)) :
    Ty G (c1 + c2 + c3) (tChain (rI0 fun a b => .bl (p a b)) (rI0 fun a b => .bl (p' a b)) ta tb tc) Γ (· = (p i j && p' j k)) := fun z B σ H en s hz Q q => by
  refine ha z B σ H en s (by omega) _ fun x v z1 B1 H1 ex n1 hv => ?_
  refine hb z1 B1 σ H1 (en.up n1.up) n1.at_ (by have := n1.hi; omega) _ fun y w z2 B2 H2 ey n2 hw => ?_
  subst ex ey
  refine ⟨x, y, hv, hw, p x y, rfl, ?_⟩
  cases e : p x y with
  | true =>
    refine hc z2 B2 σ H2 ((en.up n1.up).up n2.up) n2.at_ (by have := n1.hi; have := n2.hi; omega) _ fun u m z3 B3 H3 eu n3 hm => ?_
    subst eu
    exact ⟨y, u, hw, hm, q _ _ z3 B3 H3 rfl ((n1.trans s n2).trans s n3) (by show V.bl _ = V.bl _; rw [e] <;> rfl)⟩
  | false => exact q _ _ z2 B2 H2 rfl ((n1.trans s n2).le (by omega)) (by show V.bl _ = V.bl _; rw [e] <;> rfl)
/-! ### lists -/
theorem ty_len {xs : List α} (h : Ty G c ta Γ (· = xs)) : Ty G (c + 0) (tCB (rLenS K) (tCons ta tNil)) Γ (· = (xs.length : Int)) :=
  ty_cb (ta_cons h ta_nil) fun vs B al z B' H e s Q q => by
    cases al with
    | cons _ hx r =>
      cases r
      obtain ⟨p, us, rfl, h2, h3⟩ := hx
      refine ⟨p, us, rfl, Or.inl (sq_of (s.ex _ _ (e _ _ h2))), q _ _ z B' H rfl (.refl s) ?_⟩
      show V.int _ = V.int _
      rw [h3.len]
theorem Each.at {B : Hp} {xs : List α} {vs : List V} (h : Each B xs vs) {i : Int} {x : α} (e : atI xs i = some x) : ∃ v, atI vs i = some v ∧ Py.is x v B := by
  unfold atI at e ⊢
  rw [h.len]
  cases q : ixN xs.length i with
  | none => rw [q] at e; cases e
  | some j =>
    rw [q] at e
    exact h.get (i := j) e
theorem ty_ixN {A : List α → Prop} {A' : Int → Prop} {A2 : α → Prop} (ha : Ty G c1 ta Γ A) (hb : Ty G c2 tb Γ A') (hx : ∀ xs i, A xs → A' i → ∃ x, atI xs i = some x ∧ A2 x) : Ty G (c1 + c2) (tOp (rIxL K) ta tb) Γ A2 :=
  ty_op ha hb fun x y v w B ex ey hv hw z B' H e s Q q => by
    obtain ⟨p, us, rfl, h2, h3⟩ := hv
    cases (show w = .int y from hw)
    obtain ⟨x1, e1, a1⟩ := hx x y ex ey
    obtain ⟨u, e2, hu⟩ := h3.at e1
    exact ⟨p, us, y, u, rfl, rfl, sq_of (s.ex _ _ (e _ _ h2)), e2, q x1 u z B' H a1 (.refl s) (Py.st _ _ _ _ e hu)⟩
theorem ty_ix {xs : List α} {x : α} (ha : Ty G c1 ta Γ (· = xs)) (hb : Ty G c2 tb Γ (· = i)) (hx : atI xs i = some x) : Ty G (c1 + c2) (tOp (rIxL K) ta tb) Γ (· = x) :=
  ty_ixN ha hb fun ys k e1 e2 => ⟨x, by rw [e1, e2]; exact hx, rfl⟩
/-- a new list in the heap -/
theorem new_list {xs : List α} {vs : List V} {z : Int} {p : Addr} (s : At G z B H) (h : H p = none) (e : Each B xs vs) :
    Nx G 0 z B H z (upd B p (.lst vs)) (upd H p (.lst vs)) ∧ Py.is xs (.ref p) (upd B p (.lst vs)) := by
  have n := Nx.alloc (o := .lst vs) s h
  exact ⟨n, p, vs, rfl, upd_same, e.ex n.up⟩
def TyL (G : Option Addr) (c : Nat) (ta : TA) (Γ : Ctx) {α : Type} [Py α] (A : List α → Prop) : Prop :=
  ∀ z B σ H, Slo B σ Γ → At G z B H → z + c ≤ 2 ^ 50 → ∀ Q : List V → Hp → Prop, (∀ xs vs z' B' H', A xs → Each B' xs vs → Nx G c z B H z' B' H' → Q vs H') → ta σ H Q
theorem tl_nil : TyL (α := α) G 0 tNil Γ (· = []) := fun z B σ H en s _ Q q => q [] [] z B H rfl .nil (.refl s)
theorem tl_consN {A : α → Prop} {A' : List α → Prop} (h : Ty G c1 te Γ A) (hr : TyL G c2 tr Γ A') : TyL G (c1 + c2) (tCons te tr) Γ (fun l => ∃ x xs, l = x :: xs ∧ A x ∧ A' xs) := fun z B σ H en s hz Q q => by
  refine h z B σ H en s (by omega) _ fun x v z1 B1 H1 ax n1 hv => ?_
  refine hr z1 B1 σ H1 (en.up n1.up) n1.at_ (by have := n1.hi; omega) _ fun xs vs z2 B2 H2 al ea n2 => ?_
  exact q _ _ z2 B2 H2 ⟨x, xs, rfl, ax, al⟩ (.cons (Py.st _ _ _ _ n2.up hv) ea) (n1.trans s n2)
theorem TyL.imp {A A' : List α → Prop} (h : TyL G c tr Γ A) (i : ∀ x, A x → A' x) : TyL G c tr Γ A' := fun z B σ H en s hz Q q => h z B σ H en s hz Q fun x v z' B' H' a => q x v z' B' H' (i x a)
theorem tl_cons {x : α} {xs : List α} (h : Ty G c1 te Γ (· = x)) (hr : TyL G c2 tr Γ (· = xs)) : TyL G (c1 + c2) (tCons te tr) Γ (· = x :: xs) :=
  (tl_consN h hr).imp fun l ⟨_, _, e, e1, e2⟩ => by rw [e, e1, e2]
theorem ty_lst {A : List α → Prop} (h : TyL G c tr Γ A) (small : ∀ xs, A xs → xs.length ≤ 100000) : Ty G c (tLst tr) Γ A := fun z B σ H en s hz Q q =>
  h z B σ H en s hz _ fun xs vs z1 B1 H1 ax ea n1 => ⟨sz_of (by rw [ea.len]; exact small xs ax), fun p hp => by
    obtain ⟨n2, is2⟩ := new_list n1.at_ hp ea
    exact q xs _ _ _ _ ax ((n1.trans s n2).le (by omega)) is2⟩
theorem ty_lit {xs : List α} (h : TyL G c tr Γ (· = xs)) (small : xs.length ≤ 100000) : Ty G c (tLst tr) Γ (· = xs) := ty_lst h fun _ e => by rw [e]; exact small
theorem ty_nil : Ty G 0 (tLst tNil) Γ (· = ([] : List α)) := ty_lit tl_nil (by simp)
/-- slices -/
def cutL (xs : List α) (lo hi : Option Int) : List α := (xs.drop (HT.sIx xs.length 0 lo)).take (HT.sIx xs.length xs.length hi - HT.sIx xs.length 0 lo)
theorem Each.cut {xs : List α} {vs : List V} (h : Each B xs vs) (lo hi : Option Int) : Each B (cutL xs lo hi) (cutV vs lo hi) := by
  unfold cutL cutV
  rw [h.len]
  exact (h.drop _).take _
def TyO (G : Option Addr) (c : Nat) (to : TO) (Γ : Ctx) (o : Option Int) : Prop :=
  ∀ z B σ H, Slo B σ Γ → At G z B H → z + c ≤ 2 ^ 50 → ∀ Q : Option Int → Hp → Prop, (∀ z' B' H', Nx G c z B H z' B' H' → Q o H') → to σ H Q
theorem to_none : TyO G 0 tNoPart Γ none := fun z B σ H _ s _ Q q => q z B H (.refl s)
theorem to_some (h : Ty G c te Γ (· = i)) : TyO G c (tPart te) Γ (some i) := fun z B σ H en s hz Q q =>
  h z B σ H en s hz _ fun x v z' B' H' ex n hv => ⟨x, hv, by rw [ex]; exact q z' B' H' n⟩
theorem ty_sl {xs : List α} {tl th : TO} {lo hi : Option Int} (h : Ty G c1 te Γ (· = xs)) (h1 : TyO G c2 tl Γ lo) (h2 : TyO G c3 th Γ hi) : Ty G (c1 + c2 + c3) (tSl (rSlL K) te tl th) Γ (· = cutL xs lo hi) := fun z B σ H en s hz Q q => by
  refine h z B σ H en s (by omega) _ fun x v z1 B1 H1 ex n1 hv => ?_
  refine h1 z1 B1 σ H1 (en.up n1.up) n1.at_ (by have := n1.hi; omega) _ fun z2 B2 H2 n2 => ?_
  refine h2 z2 B2 σ H2 ((en.up n1.up).up n2.up) n2.at_ (by have := n1.hi; have := n2.hi; omega) _ fun z3 B3 H3 n3 => ?_
  subst ex
  obtain ⟨a, us, rfl, e1, e2⟩ := hv
  refine ⟨a, us, rfl, sq_of (n3.at_.ex _ _ (n3.up _ _ (n2.up _ _ e1))), fun p hp => ?_⟩
  obtain ⟨n4, is4⟩ := new_list n3.at_ hp (((e2.ex n2.up).ex n3.up).cut lo hi)
  exact q _ _ _ _ _ rfl ((((n1.trans s n2).trans s n3).trans s n4).le (by omega)) is4
theorem ty_catN {A A' : List α → Prop} (ha : Ty G c1 ta Γ A) (hb : Ty G c2 tb Γ A') (small : ∀ xs ys, A xs → A' ys → xs.length + ys.length ≤ 100000) : Ty G (c1 + c2) (tOp rCat ta tb) Γ (fun l => ∃ xs ys, A xs ∧ A' ys ∧ l = xs ++ ys) :=
  ty_op ha hb fun x y v w B ex ey hv hw z B' H e s Q q => by
    obtain ⟨p, us, rfl, h1, h2⟩ := hv
    obtain ⟨p', us', rfl, h1', h2'⟩ := hw
    refine ⟨p, p', us, us', rfl, rfl, s.ex _ _ (e _ _ h1), s.ex _ _ (e _ _ h1'), sz_of (by rw [h2.len, h2'.len]; exact small x y ex ey), fun r hr => ?_⟩
    obtain ⟨n, is⟩ := new_list s hr ((h2.ex e).app (h2'.ex e))
    exact q _ _ _ _ _ ⟨x, y, ex, ey, rfl⟩ n is
theorem ty_cat {xs ys : List α} (ha : Ty G c1 ta Γ (· = xs)) (hb : Ty G c2 tb Γ (· = ys)) (small : xs.length + ys.length ≤ 100000) : Ty G (c1 + c2) (tOp rCat ta tb) Γ (· = xs ++ ys) :=
  (ty_catN ha hb fun _ _ e1 e2 => by rw [e1, e2]; exact small).imp fun l ⟨_, _, e1, e2, e⟩ => by rw [e, e1, e2]
theorem Each.rep {xs : List α} {vs : List V} (h : Each B xs vs) : ∀ k : Nat, Each B (List.replicate k xs).flatten (List.replicate k vs).flatten
  | 0 => .nil
  | k + 1 => by
    rw [List.replicate_succ, List.replicate_succ, List.flatten_cons, List.flatten_cons]
    exact h.app (Each.rep h k)
theorem ty_rep {xs : List α} (ha : Ty G c1 ta Γ (· = xs)) (hb : Ty G c2 tb Γ (· = i)) (h0 : -(2 ^ 63) ≤ i ∧ i < 2 ^ 63) (small : xs.length * i.toNat ≤ 100000) : Ty G (c1 + c2) (tOp L2.rRep ta tb) Γ (· = (List.replicate i.toNat xs).flatten) :=
  ty_op ha hb fun x y v w B ex ey hv hw z B' H e s Q q => by
    obtain ⟨p, us, rfl, h1, h2⟩ := hv
    cases (show w = .int y from hw)
    subst ex ey
    refine ⟨p, y, us, rfl, rfl, s.ex _ _ (e _ _ h1), h0.1, h0.2, sz_of (by rw [h2.len]; exact small), fun r hr => ?_⟩
    obtain ⟨n, is⟩ := new_list s hr ((h2.ex e).rep y.toNat)
    exact q _ _ _ _ _ rfl n is
theorem inV_int (i : Int) : ∀ ns : List Int, inV (.int i) (ns.map V.int) = decide (i ∈ ns)
  | [] => rfl
  | n :: r => by
    have ih := inV_int i r
    unfold inV at ih ⊢
    rw [List.map_cons, List.any_cons, ih]
    have e : eqV (V.int n) (V.int i) = decide (i = n) := by
      show (n == i) = decide (i = n)
      rw [Bool.eq_iff_iff, beq_iff_eq, decide_eq_true_iff]
      exact eq_comm
    rw [e]
    simp
theorem all_flat_int : ∀ ns : List Int, (ns.map V.int).all flatV = true
  | [] => rfl
  | _ :: r => by rw [List.map_cons, List.all_cons, all_flat_int r] <;> rfl
theorem ty_in {ns : List Int} (ha : Ty G c1 ta Γ (· = i)) (hb : Ty G c2 tb Γ (· = ns)) : Ty G (c1 + c2) (tOp (rIn K false) ta tb) Γ (· = decide (i ∈ ns)) :=
  ty_op ha hb fun x y v w B ex ey hv hw z B' H e s Q q => by
    obtain ⟨p, rfl, h1⟩ := Py.ints hw
    cases (show v = .int x from hv)
    subst ex ey
    refine ⟨p, _, rfl, Or.inl (sq_of (s.ex _ _ (e _ _ h1))), rfl, all_flat_int y, q _ _ z B' H rfl (.refl s) ?_⟩
    rw [inV_int]
    rfl
theorem ty_notIn {ns : List Int} (ha : Ty G c1 ta Γ (· = i)) (hb : Ty G c2 tb Γ (· = ns)) : Ty G (c1 + c2) (tOp (rIn K true) ta tb) Γ (· = !decide (i ∈ ns)) :=
  ty_op ha hb fun x y v w B ex ey hv hw z B' H e s Q q => by
    obtain ⟨p, rfl, h1⟩ := Py.ints hw
    cases (show v = .int x from hv)
    subst ex ey
    refine ⟨p, _, rfl, Or.inl (sq_of (s.ex _ _ (e _ _ h1))), rfl, all_flat_int y, q _ _ z B' H rfl (.refl s) ?_⟩
    rw [inV_int]
    rfl
/-- a built-in function of one list of ints -/
theorem Alls.one {P : VP} {vs : List V} (h : Alls B [P] vs) : ∃ v, vs = [v] ∧ P v B := by
  cases h with
  | cons _ h r =>
    cases r
    exact ⟨_, rfl, h⟩
theorem Alls.two {P P' : VP} {vs : List V} (h : Alls B [P, P'] vs) : ∃ v w, vs = [v, w] ∧ P v B ∧ P' w B := by
  cases h with
  | cons _ h r =>
    obtain ⟨w, rfl, k⟩ := r.one
    exact ⟨_, w, rfl, h, k⟩
theorem ty_sortedN {A : List Int → Prop} (h : Ty G c ta Γ A) : Ty G (c + 0) (tCB (rSortedI K) (tCons ta tNil)) Γ (fun l : List Int => ∃ ns : List Int, A ns ∧ l.Perm ns ∧ l.Pairwise (· ≤ ·)) :=
  ty_cb (ta_consN h ta_nil) fun vs B al z B' H e s Q q => by
    obtain ⟨v, rfl, ns, an, hv⟩ := al.one
    obtain ⟨p, rfl, h1⟩ := Py.ints hv
    refine ⟨p, ns, rfl, sq_of (s.ex _ _ (e _ _ h1)), fun ms r pm so hr => ?_⟩
    obtain ⟨n, is⟩ := new_list s hr (Each.of_ints ms)
    exact q ms _ _ _ _ ⟨ns, an, pm, so⟩ n is
theorem ty_all {bs : List Bool} (h : Ty G c ta Γ (· = bs)) : Ty G (c + 0) (tCB (rAll K) (tCons ta tNil)) Γ (· = bs.all id) :=
  ty_cb (ta_cons h ta_nil) fun vs B al z B' H e s Q q => by
    obtain ⟨v, rfl, p, us, rfl, h1, h2⟩ := al.one
    cases h2.bls
    exact ⟨p, bs, rfl, sq_of (s.ex _ _ (e _ _ h1)), q _ _ z B' H rfl (.refl s) rfl⟩
def rInt1 : List V → Hp → VK → Prop := fun xs H Q => (∃ i, xs = [.int i] ∧ Q (.int i) H) ∨ ∃ k, xs = [.bl k] ∧ Q (.int (if k then 1 else 0)) H
theorem ty_intB {b : Bool} (h : Ty G c ta Γ (· = b)) : Ty G (c + 0) (tCB rInt1 (tCons ta tNil)) Γ (· = if b then (1 : Int) else 0) :=
  ty_cb (ta_cons h ta_nil) fun vs B al z B' H e s Q q => by
    obtain ⟨v, rfl, hv⟩ := al.one
    cases (show v = .bl b from hv)
    exact .inr ⟨b, rfl, q _ _ z B' H rfl (.refl s) rfl⟩
end
end AP
set_option maxHeartbeats 4000000
/-! Promises of defs, statements, loops and comprehensions over W1's judgements. -/
namespace AP
open PySem PySem.Spec PyProof.Rows L2 Evl
/-! ### promises -/
/-- what a def is called with, in which generator, what it costs, what it gives -/
structure Con (ι β : Type) [Py β] where
  args : ι → List VP
  pre : ι → Option Addr → Prop
  c : ι → Nat
  post : ι → β → Prop
def Con.sp {ι β : Type} [Py β] (C : Con ι β) : Sp := fun vs H Q _ => ∃ i G z B, Alls B (C.args i) vs ∧ C.pre i G ∧ At G z B H ∧ z + C.c i ≤ 2 ^ 50 ∧
  ∀ y w z' B' H', C.post i y → Nx G (C.c i) z B H z' B' H' → Py.is y w B' → Q w H'
section
variable {K : PySem.W.Frag} {G : Option Addr} {c c1 c2 c3 : Nat} {te ta tb tx : TE} {tt tu : TT} {Γ : Ctx} {ι α β γ : Type} [Py α] [Py β] [Py γ] {A A' : α → Prop} {A1 : β → Prop} {Ps : List VP} {tr : TA} {B B' H : Hp} {v w : V}
theorem ty_callN {C : Con ι β} {dvs : List V} {E : XK} (h : TyA G c1 tr Γ Ps) (k : ∀ vs B, Alls B Ps vs → ∃ i, Alls B (C.args i) (vs ++ dvs) ∧ C.pre i G ∧ C.c i ≤ c2 ∧ ∀ y, C.post i y → A1 y) :
    Ty G (c1 + c2) (tCall C.sp dvs E tr) Γ A1 := fun z B σ H en s hz Q q => by
  refine h z B σ H en s (by omega) _ fun vs z1 B1 H1 al n1 => ?_
  obtain ⟨i, h1, h2, h3, h4⟩ := k vs B1 al
  exact ⟨i, G, z1, B1, h1, h2, n1.at_, by have := n1.hi; omega, fun y w z2 B2 H2 py n2 hw => q y w z2 B2 H2 (h4 y py) (n1.trans s (n2.le h3)) hw⟩
theorem ty_call {C : Con ι β} {E : XK} (i : ι) (h : TyA G c1 tr Γ (C.args i)) (p : C.pre i G) : Ty G (c1 + C.c i) (tCall C.sp [] E tr) Γ (C.post i) :=
  ty_callN h fun vs B al => ⟨i, by rw [List.append_nil]; exact al, p, Nat.le_refl _, fun _ h => h⟩
end
/-! ### statements: where one stands, n from the def's start -/
section
variable {K : PySem.W.Frag} {G : Option Addr} {c c0 c1 c2 c3 : Nat} {te ta tb tx : TE} {tt : TT} {Γ : Ctx} {ι α β γ : Type} [Py α] [Py β] [Py γ] {A : α → Prop} {A1 : β → Prop} {Ps : List VP} {tr : TA} {B B' H B0 H0 : Hp} {v w : V}
  {σ : L2.St} {z z0 : Int} {D : Ends} {t t1 t2 tz : TS} {g : TG}
theorem q_asg (s0 : At G z0 B0 H0) (n : Nx G c0 z0 B0 H0 z B H) (en : Slo B σ Γ) {i : Nat} (h : Ty G c te Γ A) (hz : z0 + (c0 + c) ≤ 2 ^ 50)
    (k : ∀ x z' B' H' σ', A x → Nx G c z B H z' B' H' → Nx G (c0 + c) z0 B0 H0 z' B' H' → Slo B' σ' (Γ.set i (some (Py.is x))) → D.nx σ' H') : tAsg te (gName i) D σ H :=
  h z B σ H en n.at_ (by have := n.hi; omega) _ fun x v z' B' H' ax n' hv => k x z' B' H' _ ax n' (n.trans s0 n') ((en.up n'.up).put hv)
theorem q_asgS (s0 : At G z0 B0 H0) (n : Nx G c0 z0 B0 H0 z B H) (en : Slo B σ Γ) {i : Nat} (h : Ty G c te Γ A) (hz : z0 + (c0 + c) ≤ 2 ^ 50)
    (k : ∀ x z' B' H' σ', A x → Nx G c z B H z' B' H' → Nx G (c0 + c) z0 B0 H0 z' B' H' → Slo B' σ' (Γ.set i (some (Py.is x))) → tz D σ' H') : tSeq (tAsg te (gName i)) tz D σ H :=
  q_asg (D := { D with nx := tz D }) s0 n en h hz k
theorem q_drop (s0 : At G z0 B0 H0) (n : Nx G c0 z0 B0 H0 z B H) (en : Slo B σ Γ) (h : Ty G c te Γ A) (hz : z0 + (c0 + c) ≤ 2 ^ 50)
    (k : ∀ x z' B' H', A x → Nx G c z B H z' B' H' → Nx G (c0 + c) z0 B0 H0 z' B' H' → Slo B' σ Γ → D.nx σ H') : tDrop te D σ H :=
  h z B σ H en n.at_ (by have := n.hi; omega) _ fun x v z' B' H' ax n' hv => k x z' B' H' ax n' (n.trans s0 n') (en.up n'.up)
theorem q_dropS (s0 : At G z0 B0 H0) (n : Nx G c0 z0 B0 H0 z B H) (en : Slo B σ Γ) (h : Ty G c te Γ A) (hz : z0 + (c0 + c) ≤ 2 ^ 50)
    (k : ∀ x z' B' H', A x → Nx G c z B H z' B' H' → Nx G (c0 + c) z0 B0 H0 z' B' H' → Slo B' σ Γ → tz D σ H') : tSeq (tDrop te) tz D σ H :=
  q_drop (D := { D with nx := tz D }) s0 n en h hz k
theorem q_ret (s0 : At G z0 B0 H0) (n : Nx G c0 z0 B0 H0 z B H) (en : Slo B σ Γ) (h : Ty G c te Γ A) (hz : z0 + (c0 + c) ≤ 2 ^ 50)
    (k : ∀ x v z' B' H', A x → Nx G (c0 + c) z0 B0 H0 z' B' H' → Py.is x v B' → D.rt v H') : tRet te D σ H :=
  h z B σ H en n.at_ (by have := n.hi; omega) _ fun x v z' B' H' ax n' hv => k x v z' B' H' ax (n.trans s0 n') hv
theorem q_if {Ab : Bool → Prop} (s0 : At G z0 B0 H0) (n : Nx G c0 z0 B0 H0 z B H) (en : Slo B σ Γ) (h : TyT G c tt Γ Ab) (hz : z0 + (c0 + c) ≤ 2 ^ 50)
    (k1 : Ab true → ∀ z' B' H', Nx G c z B H z' B' H' → Nx G (c0 + c) z0 B0 H0 z' B' H' → Slo B' σ Γ → t1 D σ H')
    (k2 : Ab false → ∀ z' B' H', Nx G c z B H z' B' H' → Nx G (c0 + c) z0 B0 H0 z' B' H' → Slo B' σ Γ → t2 D σ H') : tIfS tt t1 t2 D σ H :=
  h z B σ H en n.at_ (by have := n.hi; omega) _ fun b z' B' H' ab n' => by
    cases b with
    | true => exact k1 ab z' B' H' n' (n.trans s0 n') (en.up n'.up)
    | false => exact k2 ab z' B' H' n' (n.trans s0 n') (en.up n'.up)
theorem q_ifS {Ab : Bool → Prop} (s0 : At G z0 B0 H0) (n : Nx G c0 z0 B0 H0 z B H) (en : Slo B σ Γ) (h : TyT G c tt Γ Ab) (hz : z0 + (c0 + c) ≤ 2 ^ 50)
    (k1 : Ab true → ∀ z' B' H', Nx G c z B H z' B' H' → Nx G (c0 + c) z0 B0 H0 z' B' H' → Slo B' σ Γ → t1 { D with nx := tz D } σ H')
    (k2 : Ab false → ∀ z' B' H', Nx G c z B H z' B' H' → Nx G (c0 + c) z0 B0 H0 z' B' H' → Slo B' σ Γ → t2 { D with nx := tz D } σ H') : tSeq (tIfS tt t1 t2) tz D σ H :=
  q_if (D := { D with nx := tz D }) s0 n en h hz k1 k2
/-- if c: return .. (no else), c deterministic -/
theorem q_when {b : Bool} (s0 : At G z0 B0 H0) (n : Nx G c0 z0 B0 H0 z B H) (en : Slo B σ Γ) (h : TyT G c tt Γ (· = b)) (hz : z0 + (c0 + c) ≤ 2 ^ 50)
    (k1 : b = true → ∀ z' B' H', Nx G c z B H z' B' H' → Nx G (c0 + c) z0 B0 H0 z' B' H' → Slo B' σ Γ → t1 { D with nx := tz D } σ H')
    (k2 : b = false → ∀ z' B' H', Nx G c z B H z' B' H' → Nx G (c0 + c) z0 B0 H0 z' B' H' → Slo B' σ Γ → tz D σ H') : tSeq (tIfS tt t1 tNext) tz D σ H :=
  q_ifS s0 n en h hz (fun e => k1 e.symm) (fun e => k2 e.symm)
/-- a check that never holds -/
theorem q_not (s0 : At G z0 B0 H0) (n : Nx G c0 z0 B0 H0 z B H) (en : Slo B σ Γ) (h : TyT G c tt Γ (· = false)) (hz : z0 + (c0 + c) ≤ 2 ^ 50)
    (k2 : ∀ z' B' H', Nx G c z B H z' B' H' → Nx G (c0 + c) z0 B0 H0 z' B' H' → Slo B' σ Γ → tz D σ H') : tSeq (tIfS tt t1 tNext) tz D σ H :=
  q_when s0 n en h hz (fun e => Bool.noConfusion e) (fun _ => k2)
theorem s_not (s0 : At G z0 B0 H0) (n : Nx G c0 z0 B0 H0 z B H) (en : Slo B σ Γ) (h : TyT G c tt Γ (· = false)) (hz : z0 + (c0 + c) ≤ 2 ^ 50)
    (k2 : ∀ z' B' H', Nx G c z B H z' B' H' → Nx G (c0 + c) z0 B0 H0 z' B' H' → Slo B' σ Γ → D.nx σ H') : tIfS tt t1 tNext D σ H :=
  q_if s0 n en h hz (fun e => Bool.noConfusion e) (fun _ => k2)
/-- a, b = e1, e2 -/
theorem q_par {i j : Nat} {c1 c2 : Nat} (s0 : At G z0 B0 H0) (n : Nx G c0 z0 B0 H0 z B H) (en : Slo B σ Γ) (h1 : Ty G c1 ta Γ A) (h2 : Ty G c2 tb Γ A1) (hz : z0 + (c0 + (c1 + c2)) ≤ 2 ^ 50)
    (k : ∀ x y z' B' H' σ', A x → A1 y → Nx G (c1 + c2) z B H z' B' H' → Nx G (c0 + (c1 + c2)) z0 B0 H0 z' B' H' → Slo B' σ' ((Γ.set i (some (Py.is x))).set j (some (Py.is y))) → tz D σ' H') :
    tSeq (tPar i j (tCons ta (tCons tb tNil))) tz D σ H := by
  refine h1 z B σ H en n.at_ (by have := n.hi; omega) _ fun x v z1 B1 H1 ax n1 hv => ?_
  refine h2 z1 B1 σ H1 (en.up n1.up) n1.at_ (by have := n.hi; have := n1.hi; omega) _ fun y w z2 B2 H2 ay n2 hw => ?_
  have nn := n1.trans n.at_ n2
  exact ⟨v, w, rfl, k x y z2 B2 H2 _ ax ay nn (n.trans s0 nn) (((en.up nn.up).put (Py.st _ _ _ _ n2.up hv)).put hw)⟩
/-! ### what loops and comprehensions go over -/
/-- the turns' items: what each one does to the slots -/
structure Src (J : It) (g : TG) (B : Hp) (js : List Nat) (n : Nat) (F : Nat → Ctx → Ctx) : Prop where
  stop : ∀ H, Ex B H → J.stop n H
  go : ∀ i, i < n → ∀ H, Ex B H → J.go i H
  yld : ∀ i, i < n → ∀ x H H', Ex B H → J.yld i H x H' → Ex H H' ∧ ∀ σ Γ Bc, Slo Bc σ Γ → Ex B Bc → Ex Bc H → ∀ Q : L2.St → Hp → Prop,
    (∀ σ', Slo Bc σ' (F i Γ) → (∀ vs, (∀ j ∈ js, j ∈ vs) → L2.wipe σ' vs = L2.wipe σ vs) → Q σ' H') → g x σ H' Q
def TyI (G : Option Addr) (c : Nat) (wi : TI) (g : TG) (Γ : Ctx) (js : List Nat) (An : Nat → Prop) (F : Nat → Ctx → Ctx) : Prop :=
  ∀ z B σ H, Slo B σ Γ → At G z B H → z + c ≤ 2 ^ 50 → ∀ R : It → Hp → Prop, (∀ J n z' B' H', An n → Nx G c z B H z' B' H' → Src J g B' js n F → R J H') → wi σ H R
theorem wipe_set (σ : L2.St) (j : Nat) (x : Option V) : ∀ vs : List Nat, j ∈ vs → L2.wipe (σ.set j x) vs = L2.wipe σ vs
  | v :: vs, h => by
    unfold L2.wipe
    by_cases e : j ∈ vs
    · rw [wipe_set σ j x vs e]
    · have ev : j = v := by
        rcases List.mem_cons.mp h with h | h
        · exact h
        · exact absurd h e
      subst ev
      clear h
      have : ∀ us : List Nat, (L2.wipe (σ.set j x) us).set j none = (L2.wipe σ us).set j none := by
        intro us
        induction us with
        | nil => show (σ.set j x).set j none = σ.set j none; rw [List.set_set]
        | cons u us ih =>
          unfold L2.wipe
          by_cases k : u = j
          · subst k
            rw [List.set_set, List.set_set]
            exact ih
          · rw [List.set_comm _ _ k, List.set_comm _ _ k, ih]
      exact this vs
theorem src_name {J : It} {j n : Nat} {f : Nat → VP} (st : ∀ i, Stays (f i)) (h1 : ∀ H, Ex B H → J.stop n H) (h2 : ∀ i, i < n → ∀ H, Ex B H → J.go i H)
    (h3 : ∀ i, i < n → ∀ x H H', Ex B H → J.yld i H x H' → H' = H ∧ f i x B) : Src J (gName j) B [j] n (fun i Γ => Γ.set j (some (f i))) :=
  ⟨h1, h2, fun i hi x H H' e y => by
    obtain ⟨rfl, p⟩ := h3 i hi x H H' e y
    refine ⟨Ex.refl _, fun σ Γ Bc en eb ec Q q => q _ (en.set (st i) (st i _ _ _ eb p)) fun vs hv => wipe_set σ j _ vs (hv j (by simp))⟩⟩
/-- the item at a turn -/
def itm {α : Type} [Py α] (xs : List α) (i : Nat) : VP := fun v B => ∃ x, xs[i]? = some x ∧ Py.is x v B
theorem itm_st {xs : List α} (i : Nat) : Stays (itm xs i) := fun _ _ _ e ⟨x, h1, h2⟩ => ⟨x, h1, Py.st _ _ _ _ e h2⟩
theorem itm_eq {xs : List α} {i : Nat} {x : α} (h : xs[i]? = some x) : itm xs i = Py.is x := by
  funext v B
  refine propext ⟨fun ⟨y, h1, h2⟩ => ?_, fun h2 => ⟨x, h, h2⟩⟩
  rw [h] at h1
  cases h1
  exact h2
theorem ti_list {xs : List α} {tl : TE} {j : Nat} (h : Ty G c tl Γ (· = xs)) : TyI G c (iList K tl) (gName j) Γ [j] (· = xs.length) (fun i Γ => Γ.set j (some (itm xs i))) := fun z B σ H en s hz R r => by
  refine h z B σ H en s hz _ fun x v z1 B1 H1 ex n1 hv => ?_
  subst ex
  obtain ⟨p, us, rfl, e1, e2⟩ := hv
  refine ⟨p, rfl, ⟨us, sq_of (n1.at_.ex _ _ e1)⟩, r _ _ z1 B1 H1 rfl n1 (src_name itm_st (fun H e => ⟨us, sq_of (e _ _ e1), Nat.le_of_eq e2.len⟩) (fun i hi H e => ?_) fun i hi x' H H' e y => ?_)⟩
  · have lt : i < us.length := by rw [e2.len]; exact hi
    exact ⟨us, us[i], sq_of (e _ _ e1), List.getElem?_eq_getElem lt⟩
  · obtain ⟨q1, q2⟩ := y
    exact ⟨q1, e2.got (q2 us (sq_of (e _ _ e1)))⟩
theorem ti_rng1 {n : Int} {j : Nat} (h : TyA G c tr Γ [Py.is n]) (hn : -(2 ^ 62) ≤ n ∧ n < 2 ^ 62) : TyI G c (iRng1 tr) (gName j) Γ [j] (· = n.toNat) (fun i Γ => Γ.set j (some (Py.is (i : Int)))) := fun z B σ H en s hz R r => by
  refine h z B σ H en s hz _ fun vs z1 B1 H1 al n1 => ?_
  obtain ⟨v, rfl, hv⟩ := al.one
  cases (show v = .int n from hv)
  exact ⟨n, rfl, hn.1, hn.2, r _ _ z1 B1 H1 rfl n1 (src_name (fun i => Py.stays (i : Int)) (fun H e => Nat.le_refl _) (fun i hi H e => hi) fun i hi x' H H' e y => ⟨y.1, by rw [y.2]; show V.int _ = V.int _; rw [Int.zero_add]⟩)⟩
theorem ti_rng2 {lo n : Int} {j : Nat} (h : TyA G c tr Γ [Py.is lo, Py.is n]) (h1 : -(2 ^ 62) ≤ lo ∧ lo < 2 ^ 62) (hn : -(2 ^ 62) ≤ n ∧ n < 2 ^ 62) : TyI G c (iRng2 tr) (gName j) Γ [j] (· = (n - lo).toNat) (fun i Γ => Γ.set j (some (Py.is (lo + (i : Int))))) := fun z B σ H en s hz R r => by
  refine h z B σ H en s hz _ fun vs z1 B1 H1 al n1 => ?_
  obtain ⟨v, w, rfl, hv, hw⟩ := al.two
  cases (show v = .int lo from hv)
  cases (show w = .int n from hw)
  exact ⟨lo, n, rfl, ⟨h1.1, h1.2, hn.1, hn.2⟩, r _ _ z1 B1 H1 rfl n1 (src_name (fun i => Py.stays (lo + (i : Int))) (fun H e => Nat.le_refl _) (fun i hi H e => hi) fun i hi x' H H' e y => ⟨y.1, y.2⟩)⟩
/-- two names from a tuple that is made on the way -/
theorem src_two {J : It} {j k n : Nat} {f f' : Nat → VP} (st : ∀ i, Stays (f i)) (st' : ∀ i, Stays (f' i)) (h1 : ∀ H, Ex B H → J.stop n H) (h2 : ∀ i, i < n → ∀ H, Ex B H → J.go i H)
    (h3 : ∀ i, i < n → ∀ x H H', Ex B H → J.yld i H x H' → ∃ T a b, x = .ref T ∧ H T = none ∧ H' = upd H T (.tup [a, b]) ∧ f i a B ∧ f' i b B) :
    Src J (gTup K 2 (gCons (gName j) (gCons (gName k) gNil))) B [j, k] n (fun i Γ => (Γ.set j (some (f i))).set k (some (f' i))) :=
  ⟨h1, h2, fun i hi x H H' e y => by
    obtain ⟨T, a, b, rfl, nT, rfl, p, p'⟩ := h3 i hi x H H' e y
    refine ⟨Ex.new nT, fun σ Γ Bc en eb ec Q q => ⟨T, [a, b], rfl, st_of upd_same, rfl, a, _, rfl, b, _, rfl, rfl, ?_⟩⟩
    refine q _ ((en.set (st i) (st i _ _ _ eb p)).set (st' i) (st' i _ _ _ eb p')) fun vs hv => ?_
    rw [wipe_set _ k _ vs (hv k (by simp)), wipe_set _ j _ vs (hv j (by simp))]⟩
theorem ti_zip {xs : List α} {ys : List β} {tr : TA} {j k : Nat} (h : TyA G c tr Γ [Py.is xs, Py.is ys]) :
    TyI G c (iZip K tr) (gTup K 2 (gCons (gName j) (gCons (gName k) gNil))) Γ [j, k] (· = min xs.length ys.length) (fun i Γ => (Γ.set j (some (itm xs i))).set k (some (itm ys i))) := fun z B σ H en s hz R r => by
  refine h z B σ H en s hz _ fun vs z1 B1 H1 al n1 => ?_
  obtain ⟨v, w, rfl, hv, hw⟩ := al.two
  obtain ⟨p, us, rfl, e1, e2⟩ := hv
  obtain ⟨p', us', rfl, e1', e2'⟩ := hw
  have l1 := e2.len
  have l2 := e2'.len
  refine ⟨p, p', us, us', rfl, sq_of (n1.at_.ex _ _ e1), sq_of (n1.at_.ex _ _ e1'), r _ _ z1 B1 H1 rfl n1 (src_two itm_st itm_st (fun H e => ⟨us, us', sq_of (e _ _ e1), sq_of (e _ _ e1'), by omega⟩) (fun i hi H e => ?_) fun i hi x' H H' e y => ?_)⟩
  · have lt : i < us.length := by omega
    have lt' : i < us'.length := by omega
    exact ⟨us, us', us[i], us'[i], sq_of (e _ _ e1), sq_of (e _ _ e1'), List.getElem?_eq_getElem lt, List.getElem?_eq_getElem lt'⟩
  · obtain ⟨T, x, x2, q1, q2, q3, q4, q5⟩ := y
    exact ⟨T, x, x2, q1, q2, q3, e2.got (q4 us (sq_of (e _ _ e1))), e2'.got (q5 us' (sq_of (e _ _ e1')))⟩
/-! ### loops -/
/-- the loop's word at a turn -/
def Lw (G : Option Addr) (z0 : Int) (B0 H0 Bs : Hp) (cc cb : Nat) (Inv : Nat → Ctx → Hp → Hp → Prop) (i : Nat) (σ : L2.St) (H : Hp) : Prop :=
  ∃ Γ z B, Inv i Γ B H ∧ Ex Bs B ∧ Nx G (cc + i * cb) z0 B0 H0 z B H ∧ Slo B σ Γ
/-! ### comprehensions -/
/-- the turns' words: which were kept, with what -/
inductive Sel {α : Type} (T : Nat → Bool → Prop) (A : Nat → α → Prop) : Nat → List α → Prop
  | nil : Sel T A 0 []
  | no {i : Nat} {ys : List α} : Sel T A i ys → T i false → Sel T A (i + 1) ys
  | yes {i : Nat} {ys : List α} {y : α} : Sel T A i ys → T i true → A i y → Sel T A (i + 1) (ys ++ [y])
theorem Sel.len {T : Nat → Bool → Prop} {A : Nat → α → Prop} : ∀ {i : Nat} {ys : List α}, Sel T A i ys → ys.length ≤ i
  | _, _, .nil => Nat.le_refl _
  | _, _, .no h _ => Nat.le_succ_of_le (Sel.len h)
  | _, _, .yes h _ _ => by rw [List.length_append]; exact Nat.succ_le_succ (Sel.len h)
theorem ty_lc {wi : TI} {js vs : List Nat} {M ct cb : Nat} {An : Nat → Prop} {F : Nat → Ctx → Ctx} {T : Nat → Bool → Prop} {A : Nat → α → Prop} (h : TyI G c wi g Γ js An F) (hM : ∀ m, An m → m ≤ M) (hm : M ≤ 40000) (hj : ∀ j ∈ js, j ∈ vs)
    (ht : ∀ m, An m → ∀ i, i < m → TyT G ct tt (F i (wipeC Γ vs)) (T i)) (he : ∀ m, An m → ∀ i, i < m → T i true → Ty G cb te (F i (wipeC Γ vs)) (A i)) :
    Ty G (c + M * (ct + cb)) (tLc wi g tt te vs) Γ (fun ys => ∃ m, An m ∧ Sel T A m ys) := fun z B σ H en s hz Q q => by
  refine h z B σ H en s (by omega) _ fun J m z1 B1 H1 am n1 src => fun D hD => ?_
  have mM := hM m am
  have hz : z + ((c + m * (ct + cb) : Nat) : Int) ≤ 2 ^ 50 := by
    have : m * (ct + cb) ≤ M * (ct + cb) := Nat.mul_le_mul_right _ mM
    generalize m * (ct + cb) = w1 at this ⊢
    generalize M * (ct + cb) = w2 at this hz
    omega
  replace q : ∀ (x : List α) (v : V) (z' : Int) (B' H' : Hp), Sel T A m x → Nx G (c + m * (ct + cb)) z B H z' B' H' → Py.is x v B' → Q v H' := fun x v z' B' H' sx nx => q x v z' B' H' ⟨m, am, sx⟩ (nx.le (Nat.add_le_add_left (Nat.mul_le_mul_right _ mM) _))
  -- the word: the base without the new list
  refine ⟨fun i k H' => k + i = m ∧ ∃ ys us z' B', Sel T A i ys ∧ Each B' ys us ∧ H' D = some (.lst us) ∧ B' D = none ∧ Ex B1 B' ∧ Nx G (c + i * (ct + cb)) z B H z' B' H', ⟨m, by omega, [], [], z1, B1, .nil, .nil, upd_same, ?_, Ex.refl _, ?_⟩, ?_⟩
  · cases e : B1 D with
    | none => rfl
    | some o => rw [n1.at_.ex _ _ e] at hD; cases hD
  · exact (n1.trans s (Nx.more n1.at_ (Ex.new hD))).le (by omega)
  rintro i k H2 ⟨e, ys, us, z2, B2, sel, ea, hD2, nD, x2, n2⟩
  have nDH : H D = none := n1.gone s hD
  have gD : G ≠ some D := fun hg => by
    obtain ⟨_, _, _, q1, _⟩ := s.gen D hg
    rw [q1] at nDH
    cases nDH
  rcases Nat.lt_or_ge i m with lt | ge
  · have succ : (i + 1) * (ct + cb) = i * (ct + cb) + (ct + cb) := by rw [Nat.add_mul, Nat.one_mul]
    have bound : z + ((c + i * (ct + cb) + (ct + cb) : Nat) : Int) ≤ 2 ^ 50 := by
      have h1 : (i + 1) * (ct + cb) ≤ m * (ct + cb) := Nat.mul_le_mul_right _ lt
      have h2 : (i + 1) * (ct + cb) = i * (ct + cb) + (ct + cb) := by rw [Nat.add_mul, Nat.one_mul]
      rw [h2] at h1
      generalize i * (ct + cb) = w1 at h1 ⊢
      generalize m * (ct + cb) = w2 at h1 hz
      omega
    have dropNx : ∀ {z' : Int} {B' H' : Hp} {c' : Nat} (o : HO), B' D = none → Nx G c' z B H z' B' H' → Nx G c' z B H z' B' (upd H' D o) := fun {z' B' H' c'} o nB nx => by
      refine ⟨⟨fun a u ha => ?_, fun g' hg => ?_⟩, nx.up, nx.new, nx.lo, nx.hi, fun a u hg ha => ?_⟩
      · rw [upd_ne (ne_of_none ha nB)]
        exact nx.at_.ex a u ha
      · obtain ⟨q1, x, y, q2, q3⟩ := nx.at_.gen g' hg
        exact ⟨q1, x, y, by rw [upd_ne (fun z => gD (by rw [hg, z]))]; exact q2, q3⟩
      · rw [upd_ne (ne_of_none ha nDH)]
        exact nx.keep a u hg ha
    generalize hw' : i * (ct + cb) = w at n2 bound succ
    refine .inr ⟨src.go i lt H2 (x2.trans n2.at_.ex), fun H' => ∃ ys us z' B', Sel T A (i + 1) ys ∧ Each B' ys us ∧ H' D = some (.lst us) ∧ B' D = none ∧ Ex B1 B' ∧ Nx G (c + (i + 1) * (ct + cb)) z B H z' B' H', fun H' p => ⟨k - 1, by omega, by omega, p⟩, fun x H3 y => ?_⟩
    obtain ⟨e3, fin⟩ := src.yld i lt x H2 H3 (x2.trans n2.at_.ex) y
    have enB : Slo B2 (L2.wipe σ vs) (wipeC Γ vs) := (en.up n2.up).wipe vs
    refine fin (L2.wipe σ vs) (wipeC Γ vs) B2 enB x2 n2.at_.ex _ fun σ' en3 hw => ⟨?_, ?_⟩
    · have : ∀ (us : List Nat) (τ : L2.St), L2.wipe (L2.wipe τ us) us = L2.wipe τ us := by
        intro us
        induction us with
        | nil => intro τ; rfl
        | cons u us ih =>
          intro τ
          show (L2.wipe ((L2.wipe τ us).set u none) us).set u none = (L2.wipe τ us).set u none
          by_cases hu : u ∈ us
          · rw [wipe_set _ u _ us hu, ih]
          · have com : ∀ (ws : List Nat) (τ : L2.St), (L2.wipe (τ.set u none) ws).set u none = (L2.wipe τ ws).set u none := by
              intro ws
              induction ws with
              | nil => intro τ; show (τ.set u none).set u none = _; rw [List.set_set]; rfl
              | cons w ws ih2 =>
                intro τ
                show ((L2.wipe (τ.set u none) ws).set w none).set u none = ((L2.wipe τ ws).set w none).set u none
                by_cases k : w = u
                · subst k
                  rw [List.set_set, List.set_set]
                  exact ih2 τ
                · rw [List.set_comm _ _ k, List.set_comm _ _ k, ih2]
            rw [com us, ih]
      rw [hw vs hj, this]
    have n3 : Nx G (c + w) z B H z2 B2 H3 := (n2.trans s (Nx.more n2.at_ e3)).le (by omega)
    have keepD : ∀ {c' : Nat} {za zb : Int} {Ba Bb Ha Hb : Hp} {vs : List V}, Nx G c' za Ba Ha zb Bb Hb → Ha D = some (.lst vs) → Ba D = none → Hb D = some (.lst vs) ∧ Bb D = none := fun {c' za zb Ba Bb Ha Hb vs} nx hd hb => by
      refine ⟨nx.keep D _ gD hd, ?_⟩
      cases e : Bb D with
      | none => rfl
      | some o =>
        rcases nx.new D o e with h | h
        · rw [hb] at h; cases h
        · exact (h.no hd).elim
    refine ht m am i lt z2 B2 σ' H3 en3 n3.at_ (by have := n3.hi; omega) _ fun b z4 B4 H4 tb n4 => ?_
    obtain ⟨hD4, nD4⟩ := keepD n4 (e3 D _ hD2) nD
    cases b with
    | false =>
      show ∃ ys us z' B', _
      refine ⟨ys, us, z4, B4, .no sel tb, ea.ex n4.up, hD4, nD4, x2.trans n4.up, (n3.trans s n4).le (by rw [succ]; omega)⟩
    | true =>
      show te σ' H4 fun y H5 => _
      refine he m am i lt tb z4 B4 σ' H4 (en3.up n4.up) n4.at_ (by have := n3.hi; have := n4.hi; omega) _ fun y v z5 B5 H5 ay n5 hv => ?_
      obtain ⟨hD5, nD5⟩ := keepD n5 hD4 nD4
      refine ⟨us, hD5, sz_lt (by rw [ea.len]; have := sel.len; omega), ys ++ [y], us ++ [v], z5, B5, .yes sel tb ay, ((ea.ex n4.up).ex n5.up).snoc hv, upd_same, nD5, (x2.trans n4.up).trans n5.up, dropNx _ nD5 (((n3.trans s n4).trans s n5).le (by rw [succ]; omega))⟩
  · cases (show i = m by omega)
    refine .inl ⟨src.stop H2 (x2.trans n2.at_.ex), ?_⟩
    refine q ys (.ref D) z2 (upd B2 D (.lst us)) H2 sel ⟨⟨fun a u ha => ?_, fun g' hg => ?_⟩, n2.up.trans (Ex.new nD), fun a u ha => ?_, n2.lo, n2.hi, n2.keep⟩ ⟨D, us, rfl, upd_same, ea.ex (Ex.new nD)⟩
    · by_cases e : a = D
      · subst e
        rw [upd_same] at ha
        rw [hD2, ha]
      · rw [upd_ne e] at ha
        exact n2.at_.ex a u ha
    · obtain ⟨q1, q2⟩ := n2.at_.gen g' hg
      exact ⟨by rw [upd_ne (fun z => gD (by rw [hg, z]))]; exact q1, q2⟩
    · by_cases e : a = D
      · subst e
        exact .inr (.inl nDH)
      · rw [upd_ne e] at ha
        exact n2.new a u ha
/-- all is told -/
theorem sel_det {T : Nat → Bool → Prop} {A : Nat → α → Prop} (p : Nat → Bool) (f : Nat → α) (hT : ∀ i b, T i b → b = p i) (hA : ∀ i y, A i y → y = f i) :
    ∀ {m : Nat} {ys : List α}, Sel T A m ys → ys = ((List.range m).filter p).map f
  | _, _, .nil => rfl
  | _, _, .no (i := i) h t => by
    have ih := sel_det p f hT hA h
    have e := hT i false t
    rw [List.range_succ, List.filter_append, List.map_append, ← ih, List.filter_cons, if_neg (by rw [← e]; decide)]
    show _ = _ ++ []
    rw [List.append_nil]
  | _, _, .yes (i := i) h t a => by
    have ih := sel_det p f hT hA h
    have e := hT i true t
    rw [List.range_succ, List.filter_append, List.map_append, ← ih, List.filter_cons, if_pos e.symm, hA i _ a] <;> rfl
end
end AP
set_option maxHeartbeats 4000000
/-! A def's promise by its body; calls of such defs; values of any kind. -/
namespace AP
open PySem PySem.Spec PyProof.Rows L2 Evl
section
variable {P : Program} {w : World} {K : PySem.W.Frag} {mg : Str → Option Value} {base : Heap} {ι β : Type} [Py β]
/-- the rest of a def's body: what it has to come to -/
abbrev Back (C : Con ι β) (i : ι) (G : Option Addr) (z0 : Int) (B0 H0 : Hp) (Q : VK) : Prop :=
  ∀ y w z' B' H', C.post i y → Nx G (C.c i) z0 B0 H0 z' B' H' → Py.is y w B' → Q w H'
theorem con_go {x qual : Str} {st : Stmt} {f : Addr} {fd : FuncData} {N ps : List Str} {k : Nat}
    (F : Df K x qual st [] f fd) (S : FnScope N ps (defScope st)) (C : Con ι β) (hl : ∀ i, (C.args i).length = ps.length)
    (body : ∀ (cdv : Value) (A : Around) (outer : List PySem.Env) (s : Shared) (H : Hp) (E : XK) (i : ι) (G : Option Addr) (z0 : Int) (B0 : Hp),
      Room k (A.deeper (envOfC qual (defScope st) s.heap.objs.size f cdv)) → C.pre i G → At G z0 B0 H → z0 + C.c i ≤ 2 ^ 50 →
        ∃ t, PSs (cxOf CX0 P w K mg base N qual (defScope st) f cdv A outer s H E).nox (defBody st) t ∧
          ∀ (σ : L2.St) (Q : VK), Slo B0 σ (ctx0 N.length (C.args i)) → Back C i G z0 B0 H Q → t { nx := fun _ H' => Q .non H', rt := Q } σ H) :
    FnOk P w K mg base CX0 (k + 1) f fd ps C.sp := by
  refine F.go S (fun vs H Q E h => ?_) (fun cdv A outer s H vs Q E hr h => ?_)
  · obtain ⟨i, _, _, _, al, _⟩ := h
    rw [al.len]
    exact hl i
  · obtain ⟨i, G, z0, B0, al, hp, at0, hz, q⟩ := h
    obtain ⟨t, ht, run⟩ := body cdv A outer s H E i G z0 B0 hr hp at0 hz
    exact ⟨t, ht, run _ Q (Slo.start al) q⟩
theorem con_goG {x qual : Str} {st : Stmt} {f : Addr} {fd : FuncData} {N ps : List Str} {k : Nat}
    (F : Df K x qual st [] f fd) (S : FnScope N ps (defScope st)) (C : Con ι β) (hl : ∀ i, (C.args i).length = ps.length)
    (body : ∀ (cdv : Value) (A : Around) (outer : List PySem.Env) (s : Shared) (H : Hp) (E : XK) (i : ι) (G : Option Addr) (z0 : Int) (B0 : Hp),
      (A.deeper (envOfC qual (defScope st) s.heap.objs.size f cdv)).guards = some [] →
      Room k (A.deeper (envOfC qual (defScope st) s.heap.objs.size f cdv)) → C.pre i G → At G z0 B0 H → z0 + C.c i ≤ 2 ^ 50 →
        ∃ t, PSs (cxOf CX0 P w K mg base N qual (defScope st) f cdv A outer s H E).nox (defBody st) t ∧
          ∀ (σ : L2.St) (Q : VK), Slo B0 σ (ctx0 N.length (C.args i)) → Back C i G z0 B0 H Q → t { nx := fun _ H' => Q .non H', rt := Q } σ H) :
    FnG P w K mg base CX0 (k + 1) f fd ps C.sp := by
  refine F.goG S (fun vs H Q E h => ?_) (fun cdv A outer s H vs Q E ng hr h => ?_)
  · obtain ⟨i, _, _, _, al, _⟩ := h
    rw [al.len]
    exact hl i
  · obtain ⟨i, G, z0, B0, al, hp, at0, hz, q⟩ := h
    obtain ⟨t, ht, run⟩ := body cdv A outer s H E i G z0 B0 ng hr hp at0 hz
    exact ⟨t, ht, run _ Q (Slo.start al) q⟩
/-- a def of the text that keeps its promise: all that a caller needs -/
structure Fo (P : Program) (w : World) (K : PySem.W.Frag) (mg : Str → Option Value) (base : Heap) (x : Str) (k : Nat) (ps : List Str) (sp : Sp) : Prop where
  ex : ∃ (f : Addr) (fd : FuncData), mg x = some (.ref f) ∧ PySem.W.keepIn K (.ref f) = true ∧ Binds K fd ps [] ∧
    (∀ (s : Shared) (ws : List Value), K.In s.heap → ws.length = ps.length → BindsTo s fd ⟨[], ps.reverse.zip ws⟩ (ps.zip ws.reverse)) ∧ FnOk P w K mg base CX0 k f fd ps sp
theorem Fo.mk' {x qual : Str} {st : Stmt} {f : Addr} {fd : FuncData} {ps : List Str} {k : Nat} {sp : Sp} (F : Df K x qual st [] f fd) (m : mg x = some (.ref f)) (G : FnOk P w K mg base CX0 k f fd ps sp)
    (b : ∀ (kV doc pm : Value) (an : Option Addr) (cdv ct : Value) (us : List Value), us.length = ps.length → bindArgs (PySem.W.fnOf x qual (defArgs st) (defBody st) (defScope st) .none kV doc pm an cdv ct) ⟨us, []⟩ = pure (ps.zip us))
    (bk : ∀ (kV doc pm : Value) (an : Option Addr) (cdv ct : Value) (us : List Value), us.length = ps.length → bindArgs (PySem.W.fnOf x qual (defArgs st) (defBody st) (defScope st) .none kV doc pm an cdv ct) ⟨[], ps.reverse.zip us⟩ = pure (ps.zip us.reverse)) :
    Fo P w K mg base x k ps sp := by
  refine ⟨f, fd, m, F.kp, FunD.bindsN F b, fun s ws _ hl => ?_, G⟩
  obtain ⟨oc, od, dV, kV, doc, pm, an, cdv, ct, osl, rfl, lk, hcd, hD, hK⟩ := F.ex
  rcases hD with ⟨_, rfl⟩ | ⟨e, _⟩
  · exact .of_eq (bk kV doc pm an cdv ct ws hl)
  · exact absurd rfl e
theorem Fo.mono {x : Str} {j k : Nat} {ps : List Str} {sp : Sp} (F : Fo P w K mg base x j ps sp) (h : j ≤ k) : Fo P w K mg base x k ps sp := by
  obtain ⟨f, fd, a, b, c, d, e⟩ := F.ex
  exact ⟨f, fd, a, b, c, d, e.mono h⟩
end
section
variable {X : Cx} {k : Nat} {ps : List Str} {sp : Sp} {x : Str} {p pos : Pos} {e : Expr} {es : List Expr} {t : TA}
theorem pe_fo (F : Fo X.prog X.w X.K X.mg X.base x k ps sp) (hr : Room k X.A) (hg : Gl X x) (ha : PA X (e :: es) t) (hdb : (x == ("__debug__" : Str)) = false := by decide)
    (he : starEach (e :: es) X.env = (false, eval e X.env) :: starEach es X.env := by rfl)
    (hpl : (backTo pos (starEach es X.env)).any (·.1) = false := by rfl) :
    PE X (.Call (.Name x p) (e :: es) [] pos) (tCall sp [] (fun _ _ _ => False) t) := by
  obtain ⟨f, fd, m, kp, b, _, G⟩ := F.ex
  exact pe_call G hr hg m kp b .nil pass0 ha hdb he hpl
end
section
variable {K : PySem.W.Frag} {G : Option Addr} {c c1 c2 c3 : Nat} {te ta tb tx : TE} {tt : TT} {Γ : Ctx} {ι α β : Type} [Py α] [Py β] {A : α → Prop} {tr : TA} {B B' H : Hp} {v w : V}
/-- keywords in turn, told from behind -/
theorem Alls.rev : ∀ {Ps : List VP} {vs : List V}, Alls B Ps vs → Alls B Ps.reverse vs.reverse
  | _, _, .nil => .nil
  | _, _, .cons st h r => by
    rw [List.reverse_cons, List.reverse_cons]
    exact (Alls.rev r).app (.cons st h .nil)
/-! ### comprehensions, all told -/
theorem ty_lcL {xs : List α} {p : α → Bool} {f : α → β} {tl : TE} {j : Nat} {vs : List Nat} (h : Ty G c tl Γ (· = xs)) (hm : xs.length ≤ 40000) (hj : j ∈ vs)
    (ht : ∀ x, x ∈ xs → TyT G 0 tt ((wipeC Γ vs).set j (some (Py.is x))) (· = p x)) (he : ∀ x, x ∈ xs → p x = true → Ty G 0 te ((wipeC Γ vs).set j (some (Py.is x))) (· = f x)) :
    Ty G c (tLc (iList K tl) (gName j) tt te vs) Γ (· = (xs.filter p).map f) := by
  refine Ty.le (c1 := c + xs.length * (0 + 0)) ?_ (by simp)
  refine (ty_lc (T := fun i b => ∃ x, xs[i]? = some x ∧ b = p x) (A := fun i y => ∃ x, xs[i]? = some x ∧ y = f x) (M := xs.length) (ti_list h) (fun m e => Nat.le_of_eq e) hm (by simpa using hj) (fun m em i hi => ?_) fun m em i hi hp => ?_).imp fun ys ⟨m, em, sel⟩ => ?_
  · subst em
    have e := List.getElem?_eq_getElem hi
    rw [itm_eq e]
    exact (ht _ (List.getElem_mem hi)).imp fun b q => ⟨_, e, q⟩
  · subst em
    have e := List.getElem?_eq_getElem hi
    rw [itm_eq e]
    obtain ⟨x, e2, q⟩ := hp
    rw [e] at e2
    cases e2
    exact (he _ (List.getElem_mem hi) q.symm).imp fun b q => ⟨_, e, q⟩
  · subst em
    have key : ∀ (m : Nat) (ys : List β), Sel (fun i b => ∃ x, xs[i]? = some x ∧ b = p x) (fun i y => ∃ x, xs[i]? = some x ∧ y = f x) m ys → ys = ((xs.take m).filter p).map f := by
      intro m ys sel
      induction sel with
      | nil => rfl
      | no h t ih =>
        obtain ⟨x, e, q⟩ := t
        rw [List.take_add_one, e, List.filter_append, List.map_append, ← ih]
        show _ = _ ++ List.map f (List.filter p [x])
        rw [List.filter_cons, if_neg (by rw [← q]; decide)]
        show _ = _ ++ []
        rw [List.append_nil]
      | yes h t a ih =>
        obtain ⟨x, e, q⟩ := t
        obtain ⟨x', e', q'⟩ := a
        rw [e] at e'
        cases e'
        rw [List.take_add_one, e, List.filter_append, List.map_append, ← ih]
        show _ = _ ++ List.map f (List.filter p [x])
        rw [List.filter_cons, if_pos q.symm, q'] <;> rfl
    have := key _ _ sel
    rw [List.take_length] at this
    exact this
theorem ty_lcM {xs : List α} {f : α → β} {tl : TE} {j : Nat} {vs : List Nat} (h : Ty G c tl Γ (· = xs)) (hm : xs.length ≤ 40000) (hj : j ∈ vs)
    (he : ∀ x, x ∈ xs → Ty G 0 te ((wipeC Γ vs).set j (some (Py.is x))) (· = f x)) :
    Ty G c (tLc (iList K tl) (gName j) tYes te vs) Γ (· = xs.map f) :=
  (ty_lcL (p := fun _ => true) h hm hj (fun x _ => tt_yes) fun x hx _ => he x hx).to (by rw [List.filter_eq_self.mpr fun _ _ => rfl])
theorem ty_lcR2 {lo n : Int} {p : Int → Bool} {f : Int → β} {j : Nat} {vs : List Nat} (h : TyA G c tr Γ [Py.is lo, Py.is n]) (h1 : -(2 ^ 62) ≤ lo ∧ lo < 2 ^ 62) (hn : -(2 ^ 62) ≤ n ∧ n < 2 ^ 62) (hm : (n - lo).toNat ≤ 40000) (hj : j ∈ vs)
    (ht : ∀ x, lo ≤ x → x < n → TyT G 0 tt ((wipeC Γ vs).set j (some (Py.is x))) (· = p x)) (he : ∀ x, lo ≤ x → x < n → p x = true → Ty G 0 te ((wipeC Γ vs).set j (some (Py.is x))) (· = f x)) :
    Ty G c (tLc (iRng2 tr) (gName j) tt te vs) Γ (· = (((List.range (n - lo).toNat).map fun i : Nat => lo + (i : Int)).filter p).map f) := by
  refine Ty.le (c1 := c + (n - lo).toNat * (0 + 0)) ?_ (by simp)
  refine (ty_lc (T := fun i b => b = p (lo + (i : Int))) (A := fun i y => y = f (lo + (i : Int))) (M := (n - lo).toNat) (ti_rng2 h h1 hn) (fun m e => Nat.le_of_eq e) hm (by simpa using hj) (fun m em i hi => ht _ (by omega) (by omega)) fun m em i hi hp => he _ (by omega) (by omega) hp.symm).imp fun ys ⟨m, em, sel⟩ => ?_
  subst em
  rw [sel_det (fun i => p (lo + (i : Int))) (fun i => f (lo + (i : Int))) (fun _ _ q => q) (fun _ _ q => q) sel, List.filter_map, List.map_map]
  rfl
theorem ty_lcR1 {n : Int} {p : Int → Bool} {f : Int → β} {j : Nat} {vs : List Nat} (h : TyA G c tr Γ [Py.is n]) (hn : -(2 ^ 62) ≤ n ∧ n < 2 ^ 62) (hm : n.toNat ≤ 40000) (hj : j ∈ vs)
    (ht : ∀ x, 0 ≤ x → x < n → TyT G 0 tt ((wipeC Γ vs).set j (some (Py.is x))) (· = p x)) (he : ∀ x, 0 ≤ x → x < n → p x = true → Ty G 0 te ((wipeC Γ vs).set j (some (Py.is x))) (· = f x)) :
    Ty G c (tLc (iRng1 tr) (gName j) tt te vs) Γ (· = (((List.range n.toNat).map fun i : Nat => (i : Int)).filter p).map f) := by
  refine Ty.le (c1 := c + n.toNat * (0 + 0)) ?_ (by simp)
  refine (ty_lc (T := fun i b => b = p (i : Int)) (A := fun i y => y = f (i : Int)) (M := n.toNat) (ti_rng1 h hn) (fun m e => Nat.le_of_eq e) hm (by simpa using hj) (fun m em i hi => ht _ (by omega) (by omega)) fun m em i hi hp => he _ (by omega) (by omega) hp.symm).imp fun ys ⟨m, em, sel⟩ => ?_
  subst em
  rw [sel_det (fun i => p (i : Int)) (fun i => f (i : Int)) (fun _ _ q => q) (fun _ _ q => q) sel, List.filter_map, List.map_map]
  rfl
end
/-! ### values of any kind -/
inductive Dat where
  | non
  | bl (b : Bool)
  | int (n : Int)
  | str (s : Str)
  | lst (ds : List Dat)
  | tup (ds : List Dat)
  | dic
mutual
inductive DatV (B : Hp) : Dat → V → Prop
  | non : DatV B .non .non
  | bl (b : Bool) : DatV B (.bl b) (.bl b)
  | int (n : Int) : DatV B (.int n) (.int n)
  | str (s : Str) : DatV B (.str s) (.str s)
  | lst {p : Addr} {vs : List V} {ds : List Dat} : B p = some (.lst vs) → DatVs B ds vs → DatV B (.lst ds) (.ref p)
  | tup {p : Addr} {vs : List V} {ds : List Dat} : B p = some (.tup vs) → DatVs B ds vs → DatV B (.tup ds) (.ref p)
  | dic {p : Addr} : B p = some (.dK []) → DatV B .dic (.ref p)
inductive DatVs (B : Hp) : List Dat → List V → Prop
  | nil : DatVs B [] []
  | cons {d : Dat} {v : V} {ds : List Dat} {vs : List V} : DatV B d v → DatVs B ds vs → DatVs B (d :: ds) (v :: vs)
end
mutual
theorem DatV.ex {B B' : Hp} (e : Ex B B') : ∀ {d : Dat} {v : V}, DatV B d v → DatV B' d v
  | _, _, .non => .non
  | _, _, .bl b => .bl b
  | _, _, .int n => .int n
  | _, _, .str s => .str s
  | _, _, .lst h r => .lst (e _ _ h) (DatVs.ex e r)
  | _, _, .tup h r => .tup (e _ _ h) (DatVs.ex e r)
  | _, _, .dic h => .dic (e _ _ h)
theorem DatVs.ex {B B' : Hp} (e : Ex B B') : ∀ {d : List Dat} {v : List V}, DatVs B d v → DatVs B' d v
  | _, _, .nil => .nil
  | _, _, .cons h r => .cons (DatV.ex e h) (DatVs.ex e r)
end
instance : Py Dat := ⟨fun d v B => DatV B d v, fun _ _ _ _ e h => DatV.ex e h⟩
theorem DatVs.each {B : Hp} : ∀ {ds : List Dat} {vs : List V}, DatVs B ds vs → Each B ds vs
  | _, _, .nil => .nil
  | _, _, .cons h r => .cons h (DatVs.each r)
theorem Each.dats {B : Hp} : ∀ {ds : List Dat} {vs : List V}, Each B ds vs → DatVs B ds vs
  | _, _, .nil => .nil
  | _, _, .cons h r => .cons h (Each.dats r)
theorem dat_lst {ds : List Dat} {v : V} {B : Hp} (h : Py.is ds v B) : Py.is (Dat.lst ds) v B := by
  obtain ⟨p, vs, rfl, h1, h2⟩ := h
  exact .lst h1 h2.dats
theorem lst_dat {ds : List Dat} {v : V} {B : Hp} (h : Py.is (Dat.lst ds) v B) : Py.is ds v B := by
  cases (show DatV B (.lst ds) v from h) with
  | lst h1 h2 => exact ⟨_, _, rfl, h1, h2.each⟩
theorem dat_int {n : Int} {v : V} {B : Hp} (h : Py.is n v B) : Py.is (Dat.int n) v B := by
  cases (show v = .int n from h)
  exact .int n
theorem int_dat {n : Int} {v : V} {B : Hp} (h : Py.is (Dat.int n) v B) : Py.is n v B := by
  cases (show DatV B (.int n) v from h)
  rfl
theorem ints_dats {ns : List Int} {v : V} {B : Hp} (h : Py.is ns v B) : Py.is (ns.map Dat.int) v B := by
  obtain ⟨p, vs, rfl, h1, h2⟩ := h
  refine ⟨p, vs, rfl, h1, ?_⟩
  clear h1
  induction h2 with
  | nil => exact .nil
  | cons h _ ih => exact .cons (dat_int h) ih
theorem dats_ints {ns : List Int} {v : V} {B : Hp} (h : Py.is (ns.map Dat.int) v B) : Py.is ns v B := by
  obtain ⟨p, vs, rfl, h1, h2⟩ := h
  refine ⟨p, vs, rfl, h1, ?_⟩
  clear h1
  generalize hd : ns.map Dat.int = ds at h2
  induction h2 generalizing ns with
  | nil =>
    cases ns with
    | nil => exact .nil
    | cons _ _ => cases hd
  | cons h _ ih =>
    cases ns with
    | nil => cases hd
    | cons n r =>
      rw [List.map_cons] at hd
      injection hd with e1 e2
      subst e1
      exact .cons (int_dat h) (ih e2)
/-! ### isinstance -/
inductive Tn where
  | int | bool | list | tuple
def Tn.name : Tn → String
  | .int => "int" | .bool => "bool" | .list => "list" | .tuple => "tuple"
def Dat.isT : Dat → Tn → Bool
  | .bl _, .int => true
  | .bl _, .bool => true
  | .int _, .int => true
  | .lst _, .list => true
  | .tup _, .tuple => true
  | _, _ => false
theorem dat_kit {K : PySem.W.Frag} {B H : Hp} (e : Ex B H) {d : Dat} {v : V} (h : DatV B d v) (T : Tn) : ∃ t, TyX K H v t ∧ PySem.W.kitOne K t (.type T.name) = some (d.isT T) := by
  have k1 : ∀ T : Tn, kitB "NoneType" T.name = some (Dat.non.isT T) := fun T => by cases T <;> decide +kernel
  have k2 : ∀ T : Tn, kitB "bool" T.name = some ((Dat.bl true).isT T) := fun T => by cases T <;> decide +kernel
  have k3 : ∀ T : Tn, kitB "int" T.name = some ((Dat.int 0).isT T) := fun T => by cases T <;> decide +kernel
  have k4 : ∀ T : Tn, kitB "str" T.name = some ((Dat.str "").isT T) := fun T => by cases T <;> decide +kernel
  have k5 : ∀ T : Tn, kitB "list" T.name = some ((Dat.lst []).isT T) := fun T => by cases T <;> decide +kernel
  have k6 : ∀ T : Tn, kitB "tuple" T.name = some ((Dat.tup []).isT T) := fun T => by cases T <;> decide +kernel
  have k7 : ∀ T : Tn, kitB "dict" T.name = some (Dat.dic.isT T) := fun T => by cases T <;> decide +kernel
  cases h with
  | non => exact ⟨_, .base .non, kit_ty (k1 T)⟩
  | bl b => exact ⟨_, .base (.bl b), kit_ty (by have := k2 T; cases T <;> exact this)⟩
  | int n => exact ⟨_, .base (.int n), kit_ty (by have := k3 T; cases T <;> exact this)⟩
  | str s => exact ⟨_, .base (.str s), kit_ty (by have := k4 T; cases T <;> exact this)⟩
  | lst h _ => exact ⟨_, .base (.lst (e _ _ h)), kit_ty (by have := k5 T; cases T <;> exact this)⟩
  | tup h _ => exact ⟨_, .base (.tup (e _ _ h)), kit_ty (by have := k6 T; cases T <;> exact this)⟩
  | dic h => exact ⟨_, .base (.dK (e _ _ h)), kit_ty (k7 T)⟩
section
variable {K : PySem.W.Frag} {G : Option Addr} {c c1 c2 c3 : Nat} {te ta tb tx : TE} {Γ : Ctx} {α : Type} [Py α]
theorem ty_isi {d : Dat} (T : Tn) (h : Ty G c ta Γ (· = d)) : Ty G (c + (0 + 0)) (tCB (rIsi K) (tCons ta (tCons (tC (.ty T.name)) tNil))) Γ (· = d.isT T) := fun z B σ H en s hz Q q =>
  h z B σ H en s (by omega) _ fun x v z' B' H' ex n hv => by
    subst ex
    obtain ⟨t, h1, h2⟩ := dat_kit (K := K) n.at_.ex hv T
    exact ⟨v, _, t, _, _, rfl, .ty _, h1, h2, q _ _ z' B' H' rfl (n.le (by omega)) rfl⟩
end
end AP
set_option maxHeartbeats 4000000
/-! What the program's judging defs say, as functions of Lean; rules for values of any kind. -/
namespace AP
open PySem PySem.Spec PyProof.Rows L2 Evl
def Dat.whole : Dat → Bool
  | .int _ => true
  | _ => false
theorem Dat.whole_eq (d : Dat) : (d.isT .int && !d.isT .bool) = d.whole := by cases d <;> rfl
def Dat.toI : Dat → Int
  | .int n => n
  | _ => 0
theorem Dat.whole_int {d : Dat} (h : d.whole = true) : d = .int d.toI := by cases d <;> first | rfl | cases h
def Dat.within (lo hi : Int) : Dat → Bool
  | .int n => decide (lo ≤ n) && decide (n ≤ hi)
  | _ => false
theorem Dat.within_eq (lo hi : Int) (d : Dat) : d.within lo hi = (d.whole && (decide (lo ≤ d.toI) && decide (d.toI ≤ hi))) := by cases d <;> rfl
theorem Dat.within_whole {lo hi : Int} {d : Dat} (h : d.within lo hi = true) : d.whole = true := by cases d <;> first | rfl | cases h
theorem Dat.within_int {lo hi : Int} {d : Dat} (h : d.within lo hi = true) : lo ≤ d.toI ∧ d.toI ≤ hi := by
  rw [Dat.within_eq] at h
  simp only [Bool.and_eq_true, decide_eq_true_eq] at h
  exact h.2
def top (w : Int) : Int := 2 ^ w.toNat - 1
/-- a word of the width -/
def Dat.word (w : Int) (d : Dat) : Bool := d.within 0 (top w)
def Dat.small : Dat → Prop
  | .lst ds => ds.length ≤ 30000
  | _ => True
def wordsB (w : Int) : Dat → Bool
  | .lst ds => ds.all (Dat.word w)
  | _ => false
def climbs (ns : List Int) : Bool := (List.range (ns.length - 1)).all fun i => decide (ns.getD i 0 < ns.getD (i + 1) 0)
def placesB (w : Int) : Dat → Bool
  | .lst ds => ds.all (Dat.word w) && (decide (0 < ds.length) && climbs (ds.map Dat.toI))
  | _ => false
def wordsAtB (w : Int) (many : Nat) : Dat → Bool
  | .lst ds => ds.all (Dat.word w) && decide (ds.length = many)
  | _ => false
def knownOneB (w : Int) (ps : List Int) : Dat → Bool
  | .tup [a, b] => a.whole && (decide (a.toI ∈ ps) && b.word w)
  | _ => false
def Dat.fst : Dat → Dat
  | .tup (a :: _) => a
  | _ => .non
def knownB (w : Int) (ps : List Int) : Dat → Bool
  | .lst ds => ds.all (knownOneB w ps) && climbs (ds.map fun d => d.fst.toI)
  | _ => false
/-! contracts -/
def nop {ι : Type} : ι → Option Addr → Prop := fun _ _ => True
def cWhole : Con Dat Bool := ⟨fun d => [Py.is d], nop, fun _ => 0, fun d b => b = d.whole⟩
def cBetween : Con (Dat × Int × Int) Bool := ⟨fun i => [Py.is i.1, Py.is i.2.1, Py.is i.2.2], nop, fun _ => 0, fun i b => b = i.1.within i.2.1 i.2.2⟩
def cFitsWidth : Con Dat Bool := ⟨fun d => [Py.is d], nop, fun _ => 0, fun d b => b = d.within 1 64⟩
def wOk (w : Int) : Prop := 1 ≤ w ∧ w ≤ 64
def cFitsWord : Con (Int × Dat) Bool := ⟨fun i => [Py.is i.1, Py.is i.2], fun i _ => wOk i.1, fun _ => 0, fun i b => b = i.2.word i.1⟩
def cAreWords : Con (Int × Dat) Bool := ⟨fun i => [Py.is i.1, Py.is i.2], fun i _ => wOk i.1 ∧ i.2.small, fun _ => 0, fun i b => b = wordsB i.1 i.2⟩
def cClimbs : Con (List Int) Bool := ⟨fun i => [Py.is i], fun i _ => i.length ≤ 30000, fun _ => 0, fun i b => b = climbs i⟩
def cArePlaces : Con (Int × Dat) Bool := ⟨fun i => [Py.is i.1, Py.is i.2], fun i _ => wOk i.1 ∧ i.2.small, fun _ => 0, fun i b => b = placesB i.1 i.2⟩
def cWordsAt : Con (Int × List Int × Dat) Bool := ⟨fun i => [Py.is i.1, Py.is i.2.1, Py.is i.2.2], fun i _ => wOk i.1 ∧ i.2.2.small, fun _ => 0, fun i b => b = wordsAtB i.1 i.2.1.length i.2.2⟩
def cKnownOne : Con (Int × List Int × Dat) Bool := ⟨fun i => [Py.is i.1, Py.is i.2.1, Py.is i.2.2], fun i _ => wOk i.1, fun _ => 0, fun i b => b = knownOneB i.1 i.2.1 i.2.2⟩
def cKnown : Con (Int × List Int × Dat) Bool := ⟨fun i => [Py.is i.1, Py.is i.2.1, Py.is i.2.2], fun i _ => wOk i.1 ∧ i.2.2.small, fun _ => 0, fun i b => b = knownB i.1 i.2.1 i.2.2⟩
/-- good places -/
def Places (w : Int) (ps : List Int) : Prop := placesB w (.lst (ps.map Dat.int)) = true ∧ ps.length ≤ 30000
def cNeedWidth : Con Int Unit := ⟨fun w => [Py.is w], fun w _ => wOk w, fun _ => 0, fun _ _ => True⟩
def cNeedPlaces : Con (Int × List Int) Unit := ⟨fun i => [Py.is i.1, Py.is i.2], fun i _ => wOk i.1 ∧ Places i.1 i.2, fun _ => 0, fun _ _ => True⟩
def cIsWord : Con (Int × Dat) Bool := cFitsWord
def cIsWords : Con (Int × List Int × Dat) Bool := ⟨fun i => [Py.is i.1, Py.is i.2.1, Py.is i.2.2], fun i _ => wOk i.1 ∧ Places i.1 i.2.1 ∧ i.2.2.small, fun _ => 0, fun i b => b = wordsAtB i.1 i.2.1.length i.2.2⟩
def cIsKnown : Con (Int × List Int × Dat) Bool := ⟨fun i => [Py.is i.1, Py.is i.2.1, Py.is i.2.2], fun i _ => wOk i.1 ∧ Places i.1 i.2.1 ∧ i.2.2.small, fun _ => 0, fun i b => b = knownB i.1 i.2.1 i.2.2⟩
/-! rules -/
section
variable {K : PySem.W.Frag} {G : Option Addr} {c c1 c2 c3 : Nat} {te ta tb tx : TE} {tt tu : TT} {Γ : Ctx} {α β : Type} [Py α] [Py β] {tr : TA} {B B' H : Hp} {v w : V} {i j : Int}
theorem Ty.datInt {n : Int} (h : Ty G c te Γ (· = n)) : Ty G c te Γ (· = Dat.int n) := h.cast fun _ _ => dat_int
theorem Ty.datLst {ds : List Dat} (h : Ty G c te Γ (· = ds)) : Ty G c te Γ (· = Dat.lst ds) := h.cast fun _ _ => dat_lst
theorem Ty.lstDat {ds : List Dat} (h : Ty G c te Γ (· = Dat.lst ds)) : Ty G c te Γ (· = ds) := h.cast fun _ _ => lst_dat
theorem Ty.datInts {ns : List Int} (h : Ty G c te Γ (· = ns)) : Ty G c te Γ (· = ns.map Dat.int) := h.cast fun _ _ => ints_dats
theorem Ty.datStr {b : Str} (h : Ty G c te Γ (· = b)) : Ty G c te Γ (· = Dat.str b) := h.cast fun v B q => by
  cases (show v = .str b from q)
  exact .str b
theorem Ty.datNon (h : Ty G c te Γ (· = ())) : Ty G c te Γ (· = Dat.non) := h.cast fun v B q => by
  cases (show v = .non from q)
  exact .non
theorem Ty.intOf {d : Dat} (h : Ty G c te Γ (· = d)) (hw : d.whole = true) : Ty G c te Γ (· = d.toI) := h.cast fun v B q => by
  rw [Dat.whole_int hw] at q
  exact int_dat q
theorem all_ints : ∀ {ds : List Dat}, (∀ d, d ∈ ds → d.whole = true) → ds = (ds.map Dat.toI).map Dat.int
  | [], _ => rfl
  | d :: r, h => by
    rw [List.map_cons, List.map_cons, ← all_ints fun d hd => h d (List.mem_cons_of_mem _ hd), ← Dat.whole_int (h d List.mem_cons_self)]
theorem words_whole {w : Int} {ds : List Dat} (h : ds.all (Dat.word w) = true) : ∀ d, d ∈ ds → d.whole = true := fun d hd => Dat.within_whole (List.all_eq_true.mp h d hd)
theorem Ty.intsOf {ds : List Dat} (h : Ty G c te Γ (· = Dat.lst ds)) (hw : ∀ d, d ∈ ds → d.whole = true) : Ty G c te Γ (· = ds.map Dat.toI) := h.lstDat.cast fun v B q => by
  rw [all_ints hw] at q
  exact dats_ints q
theorem atI_in {ns : List Int} {i : Int} (h0 : 0 ≤ i) (h1 : i < ns.length) : atI ns i = some (ns.getD i.toNat 0) := by
  unfold atI ixN
  rw [if_pos h0, if_pos h1]
  show ns[i.toNat]? = _
  have lt : i.toNat < ns.length := by omega
  rw [List.getElem?_eq_getElem lt, List.getD_eq_getElem?_getD, List.getElem?_eq_getElem lt] <;> rfl
theorem climbs_eq (ns : List Int) : (((((List.range ((ns.length : Int) - 1).toNat).map fun i : Nat => 1 + (i : Int)).filter fun _ => true).map fun x : Int => decide (ns.getD (x - 1).toNat 0 < ns.getD x.toNat 0)).all id) = climbs ns := by
  rw [List.filter_eq_self.mpr fun _ _ => rfl, List.map_map, List.all_map]
  unfold climbs
  rw [show ((ns.length : Int) - 1).toNat = ns.length - 1 by omega]
  congr 1
  funext i
  show decide (ns.getD (1 + (i : Int) - 1).toNat 0 < ns.getD (1 + (i : Int)).toNat 0) = _
  rw [show (1 + (i : Int) - 1).toNat = i by omega, show (1 + (i : Int)).toNat = i + 1 by omega]
/-- 1 << w -/
theorem ty_shl (h : Ty G c te Γ (· = i)) (h0 : 0 ≤ i ∧ i ≤ 1000) : Ty G (0 + c) (tOp (rI CPow fun a b => .int (a * 2 ^ b.toNat)) (tC (.int 1)) te) Γ (· = (2 : Int) ^ i.toNat) :=
  (ty_I (f := fun a b => a * 2 ^ b.toNat) ty_i h (show CPow 1 i from ⟨h0.1, by omega, by decide⟩)).to (by show (1 : Int) * 2 ^ i.toNat = 2 ^ i.toNat; rw [Int.one_mul])
theorem ty_lenT {ds : List Dat} (h : Ty G c ta Γ (· = Dat.tup ds)) : Ty G (c + 0) (tCB (rLenS K) (tCons ta tNil)) Γ (· = (ds.length : Int)) :=
  ty_cb (ta_cons h ta_nil) fun vs B al z B' H e s Q q => by
    obtain ⟨v, rfl, hv⟩ := al.one
    cases (show DatV B (.tup ds) v from hv) with
    | tup h1 h2 =>
      refine ⟨_, _, rfl, Or.inr (st_of (s.ex _ _ (e _ _ h1))), q _ _ z B' H rfl (.refl s) ?_⟩
      show V.int _ = V.int _
      rw [h2.each.len]
theorem ty_ixT {ds : List Dat} {d : Dat} (ha : Ty G c1 ta Γ (· = Dat.tup ds)) (hb : Ty G c2 tb Γ (· = i)) (hx : atI ds i = some d) : Ty G (c1 + c2) (tOp (rIxT K) ta tb) Γ (· = d) :=
  ty_op ha hb fun x y v w B ex ey hv hw z B' H e s Q q => by
    subst ex ey
    cases (show w = .int y from hw)
    cases (show DatV B (.tup ds) v from hv) with
    | tup h1 h2 =>
      obtain ⟨u, e2, hu⟩ := h2.each.at hx
      exact ⟨_, _, y, u, rfl, rfl, st_of (s.ex _ _ (e _ _ h1)), e2, q _ u z B' H rfl (.refl s) (Py.st _ _ _ _ e hu)⟩
/-- == [], != [], whatever the list holds -/
def rEqNil (K : PySem.W.Frag) : R2 := fun x y H Q => ∃ p q xs, x = .ref p ∧ y = .ref q ∧ SqL K H p xs ∧ SqL K H q [] ∧ Q (.bl xs.isEmpty) H
theorem ty_eqNil {xs : List α} (ha : Ty G c ta Γ (· = xs)) : Ty G (c + 0) (tOp (rEqNil K) ta (tLst tNil)) Γ (· = xs.isEmpty) :=
  ty_op ha (ty_nil (α := Int)) fun x y v w B ex ey hv hw z B' H e s Q q => by
    obtain ⟨p, us, rfl, h1, h2⟩ := hv
    obtain ⟨p', us', rfl, h1', h2'⟩ := hw
    subst ex ey
    cases h2'
    refine ⟨p, p', us, rfl, rfl, sq_of (s.ex _ _ (e _ _ h1)), sq_of (s.ex _ _ (e _ _ h1')), q _ _ z B' H rfl (.refl s) ?_⟩
    show V.bl _ = V.bl _
    have := h2.len
    cases us with
    | nil => cases x with
      | nil => rfl
      | cons _ _ => cases this
    | cons _ _ => cases x with
      | nil => cases this
      | cons _ _ => rfl
end
section
variable {X : Cx}
open PySem.SeqAt in
theorem op_eqNil (hu : X.A.units < cLine) : OpR X (compareOp .Eq) (rEqNil X.K) := by
  intro pins s σ H x y v u Q I rx ry h
  obtain ⟨p, q, xs, rfl, rfl, hp, hq, go⟩ := h
  cases rx
  cases ry
  obtain ⟨us, r1, ⟨o1, n1, g1, c1, d1, e1⟩, _⟩ := I.list hp
  obtain ⟨ws, r2, ⟨o2, n2, g2, c2, d2, e2⟩, _⟩ := I.list hq
  cases r2
  have fin : EP X pins σ Q (.bool xs.isEmpty) s := ⟨.bl xs.isEmpty, H, I, rfl, go⟩
  show wpAny _ _ (richCompare .Eq _ _) _ _ _
  cases r1 with
  | nil =>
    exact RcAt.lists (e := fun _ => true) ⟨o1, g1, c1, n1, e1⟩ ⟨o2, g2, c2, n2, e2⟩ rfl hu (fun j h1 _ => absurd h1 (by simp)) X.prog X.w _ _ fin
  | cons a b =>
    exact RcAt.lists_lengths ⟨o1, g1, c1, n1, e1⟩ ⟨o2, g2, c2, n2, e2⟩ (by simp) hu X.prog X.w _ _ fin
end
end AP
set_option maxHeartbeats 4000000
/-! Calls of the judging defs. -/
namespace AP
open PySem PySem.Spec PyProof.Rows L2 Evl
section
variable {G : Option Addr} {c0 c1 c2 c3 : Nat} {t0 t1 t2 t3 : TE} {Γ : Ctx}
theorem y_whole {d : Dat} {E : XK} (h0 : Ty G c0 t0 Γ (· = d))  : Ty G ((c0 + 0) + 0) (tCall cWhole.sp [] E (tCons t0 tNil)) Γ (· = d.whole) := ty_call (C := cWhole) d (ta_cons h0 ta_nil) trivial
theorem y_between {d : Dat} {lo : Int} {hi : Int} {E : XK} (h0 : Ty G c0 t0 Γ (· = d)) (h1 : Ty G c1 t1 Γ (· = lo)) (h2 : Ty G c2 t2 Γ (· = hi))  : Ty G ((c0 + (c1 + (c2 + 0))) + 0) (tCall cBetween.sp [] E (tCons t0 (tCons t1 (tCons t2 tNil)))) Γ (· = d.within lo hi) := ty_call (C := cBetween) (d, lo, hi) (ta_cons h0 (ta_cons h1 (ta_cons h2 ta_nil))) trivial
theorem y_fitsWidth {d : Dat} {E : XK} (h0 : Ty G c0 t0 Γ (· = d))  : Ty G ((c0 + 0) + 0) (tCall cFitsWidth.sp [] E (tCons t0 tNil)) Γ (· = d.within 1 64) := ty_call (C := cFitsWidth) d (ta_cons h0 ta_nil) trivial
theorem y_fitsWord {w : Int} {d : Dat} {E : XK} (h0 : Ty G c0 t0 Γ (· = w)) (h1 : Ty G c1 t1 Γ (· = d)) (p : wOk w) : Ty G ((c0 + (c1 + 0)) + 0) (tCall cFitsWord.sp [] E (tCons t0 (tCons t1 tNil))) Γ (· = d.word w) := ty_call (C := cFitsWord) (w, d) (ta_cons h0 (ta_cons h1 ta_nil)) p
theorem y_areWords {w : Int} {d : Dat} {E : XK} (h0 : Ty G c0 t0 Γ (· = w)) (h1 : Ty G c1 t1 Γ (· = d)) (p : wOk w ∧ d.small) : Ty G ((c0 + (c1 + 0)) + 0) (tCall cAreWords.sp [] E (tCons t0 (tCons t1 tNil))) Γ (· = wordsB w d) := ty_call (C := cAreWords) (w, d) (ta_cons h0 (ta_cons h1 ta_nil)) p
theorem y_climbs {ns : List Int} {E : XK} (h0 : Ty G c0 t0 Γ (· = ns)) (p : ns.length ≤ 30000) : Ty G ((c0 + 0) + 0) (tCall cClimbs.sp [] E (tCons t0 tNil)) Γ (· = climbs ns) := ty_call (C := cClimbs) ns (ta_cons h0 ta_nil) p
theorem y_arePlaces {w : Int} {d : Dat} {E : XK} (h0 : Ty G c0 t0 Γ (· = w)) (h1 : Ty G c1 t1 Γ (· = d)) (p : wOk w ∧ d.small) : Ty G ((c0 + (c1 + 0)) + 0) (tCall cArePlaces.sp [] E (tCons t0 (tCons t1 tNil))) Γ (· = placesB w d) := ty_call (C := cArePlaces) (w, d) (ta_cons h0 (ta_cons h1 ta_nil)) p
theorem y_wordsAt {w : Int} {ns : List Int} {d : Dat} {E : XK} (h0 : Ty G c0 t0 Γ (· = w)) (h1 : Ty G c1 t1 Γ (· = ns)) (h2 : Ty G c2 t2 Γ (· = d)) (p : wOk w ∧ d.small) : Ty G ((c0 + (c1 + (c2 + 0))) + 0) (tCall cWordsAt.sp [] E (tCons t0 (tCons t1 (tCons t2 tNil)))) Γ (· = wordsAtB w ns.length d) := ty_call (C := cWordsAt) (w, ns, d) (ta_cons h0 (ta_cons h1 (ta_cons h2 ta_nil))) p
theorem y_knownOne {w : Int} {ns : List Int} {d : Dat} {E : XK} (h0 : Ty G c0 t0 Γ (· = w)) (h1 : Ty G c1 t1 Γ (· = ns)) (h2 : Ty G c2 t2 Γ (· = d)) (p : wOk w) : Ty G ((c0 + (c1 + (c2 + 0))) + 0) (tCall cKnownOne.sp [] E (tCons t0 (tCons t1 (tCons t2 tNil)))) Γ (· = knownOneB w ns d) := ty_call (C := cKnownOne) (w, ns, d) (ta_cons h0 (ta_cons h1 (ta_cons h2 ta_nil))) p
theorem y_known {w : Int} {ns : List Int} {d : Dat} {E : XK} (h0 : Ty G c0 t0 Γ (· = w)) (h1 : Ty G c1 t1 Γ (· = ns)) (h2 : Ty G c2 t2 Γ (· = d)) (p : wOk w ∧ d.small) : Ty G ((c0 + (c1 + (c2 + 0))) + 0) (tCall cKnown.sp [] E (tCons t0 (tCons t1 (tCons t2 tNil)))) Γ (· = knownB w ns d) := ty_call (C := cKnown) (w, ns, d) (ta_cons h0 (ta_cons h1 (ta_cons h2 ta_nil))) p
theorem y_needWidth {w : Int} {E : XK} (h0 : Ty G c0 t0 Γ (· = w)) (p : wOk w) : Ty G ((c0 + 0) + 0) (tCall cNeedWidth.sp [] E (tCons t0 tNil)) Γ (fun _ : Unit => True) := ty_call (C := cNeedWidth) w (ta_cons h0 ta_nil) p
theorem y_needPlaces {w : Int} {ns : List Int} {E : XK} (h0 : Ty G c0 t0 Γ (· = w)) (h1 : Ty G c1 t1 Γ (· = ns)) (p : wOk w ∧ Places w ns) : Ty G ((c0 + (c1 + 0)) + 0) (tCall cNeedPlaces.sp [] E (tCons t0 (tCons t1 tNil))) Γ (fun _ : Unit => True) := ty_call (C := cNeedPlaces) (w, ns) (ta_cons h0 (ta_cons h1 ta_nil)) p
end
end AP
set_option maxHeartbeats 4000000
/-! Draws. -/
namespace AP
open PySem PySem.Spec PyProof.Rows L2 Evl
def cRandom : Con (Addr × Int) Int := ⟨fun i => [Py.is (GenR.mk i.1), Py.is i.2], fun i G => G = some i.1 ∧ 0 < i.2 ∧ i.2.natAbs < 2 ^ 8999, fun _ => 300, fun i n => 0 ≤ n ∧ n < i.2⟩
theorem random_con {P : Program} {w : World} {K : PySem.W.Frag} {mg : Str → Option Value} {base : Heap} {k : Nat} {f : Addr} {fd : FuncData} {ps : List Str}
    (F : FnOk P w K mg base CX0 k f fd ps spRandom) : FnOk P w K mg base CX0 k f fd ps cRandom.sp := F.imp fun vs H Q E h => by
  obtain ⟨⟨g, b⟩, G, z, B, al, ⟨eG, hb, hb'⟩, at0, hz, q⟩ := h
  subst eG
  obtain ⟨v, w, rfl, hv, hw⟩ := al.two
  cases (show v = .ref g from hv)
  cases (show w = .int b from hw)
  obtain ⟨nB, x, y, hg, hx, hy, hy', hz0⟩ := at0.gen g rfl
  have hz' : z + 300 ≤ 2 ^ 50 := hz
  refine ⟨g, b, x, y, z, rfl, ⟨hg, hx, hy, hz0, by omega⟩, hb, hb', fun n x' z' H' n0 n1 hg' oth hzz => ?_⟩
  refine q n (.int n) z' B H' ⟨n0, n1⟩ ⟨⟨fun a o e => ?_, fun g' e => ?_⟩, Ex.refl _, fun _ _ h => .inl h, hzz, by have := hg'.2.2.2.2; show z' ≤ z + 300; omega, fun a o hne h => ?_⟩ rfl
  · rw [oth a (ne_of_none e nB)]
    exact at0.ex a o e
  · cases e
    exact ⟨nB, x', y, hg'.1, hg'.2.1, hy, hy', hg'.2.2.2.1⟩
  · rw [oth a fun e => hne (congrArg some e.symm)]
    exact h
section
variable {K : PySem.W.Frag} {G : Option Addr} {c c0 c1 c2 : Nat} {t0 t1 te ta tb : TE} {Γ : Ctx} {g : Addr} {b : Int} {tr : TA} {α : Type} [Py α]
theorem small_b {b : Int} (h : 0 < b) (h1 : b ≤ 2 ^ 200) : 0 < b ∧ b.natAbs < 2 ^ 8999 := by
  refine ⟨h, ?_⟩
  have e : ((2 : Int) ^ 200) = ((2 ^ 200 : Nat) : Int) := by norm_cast
  have h2 : b.natAbs ≤ 2 ^ 200 := by omega
  exact Nat.lt_of_le_of_lt h2 (Nat.pow_lt_pow_right (by decide) (by decide))
theorem ti_rng1N {A : Int → Prop} {j : Nat} (h : TyA G c tr Γ [isA A]) (hn : ∀ n, A n → -(2 ^ 62) ≤ n ∧ n < 2 ^ 62) : TyI G c (iRng1 tr) (gName j) Γ [j] (fun m => ∃ n, A n ∧ m = n.toNat) (fun i Γ => Γ.set j (some (Py.is (i : Int)))) := fun z B σ H en s hz R r => by
  refine h z B σ H en s hz _ fun vs z1 B1 H1 al n1 => ?_
  obtain ⟨v, rfl, n, an, hv⟩ := al.one
  cases (show v = .int n from hv)
  exact ⟨n, rfl, (hn n an).1, (hn n an).2, r _ _ z1 B1 H1 ⟨n, an, rfl⟩ n1 (src_name (fun i => Py.stays (i : Int)) (fun H e => Nat.le_refl _) (fun i hi H e => hi) fun i hi x' H H' e y => ⟨y.1, by rw [y.2]; show V.int _ = V.int _; rw [Int.zero_add]⟩)⟩
/-! powers -/
theorem two_pow (t : Int) (h : 0 ≤ t) (h1 : t ≤ 200) : (0 : Int) < 2 ^ t.toNat ∧ (2 : Int) ^ t.toNat ≤ 2 ^ 200 := by
  have e : ∀ k : Nat, ((2 : Int) ^ k) = ((2 ^ k : Nat) : Int) := fun k => by norm_cast
  rw [e, e]
  have a := Nat.two_pow_pos t.toNat
  have b : 2 ^ t.toNat ≤ 2 ^ 200 := Nat.pow_le_pow_right (by decide) (by omega)
  omega
end
end AP
set_option maxHeartbeats 4000000
/-! Lists that are not told one by one; pairs; dicts made on the way. -/
namespace AP
open PySem PySem.Spec PyProof.Rows L2 Evl
section
variable {K : PySem.W.Frag} {G : Option Addr} {c c0 c1 c2 c3 : Nat} {te ta tb tx t0 t1 : TE} {tt tu : TT} {Γ : Ctx} {α β : Type} [Py α] [Py β] {tr : TA} {B B' H : Hp} {v w : V} {i j : Int} {σ : L2.St}
/-- name what a slot holds -/
theorem Slo.name {P : α → Prop} {k : Nat} (en : Slo B σ Γ) (h : Γ[k]? = some (some (isA P))) : ∃ x, P x ∧ Slo B σ (Γ.set k (some (Py.is x))) := by
  obtain ⟨v, h1, _, x, h2, h3⟩ := en.all k _ h
  refine ⟨x, h2, ?_⟩
  have e := en.put (i := k) h3
  have lt : k < σ.length := (List.getElem?_eq_some_iff.mp h1).1
  have : σ.set k (some v) = σ := by
    apply List.ext_getElem?
    intro m
    by_cases hm : k = m
    · subst hm
      rw [List.getElem?_set_self lt, h1]
    · rw [List.getElem?_set_ne hm]
  rw [this] at e
  exact e
theorem sel_all {T : Nat → Bool → Prop} {A : Nat → α → Prop} {P : α → Prop} (hA : ∀ i y, A i y → P y) : ∀ {m : Nat} {ys : List α}, Sel T A m ys → ∀ y ∈ ys, P y
  | _, _, .nil => by simp
  | _, _, .no h _ => sel_all hA h
  | _, _, .yes h _ a => fun y hy => by
    rcases List.mem_append.mp hy with h' | h'
    · exact sel_all hA h y h'
    · rw [List.mem_singleton.mp h']
      exact hA _ _ a
theorem sel_len {T : Nat → Bool → Prop} {A : Nat → α → Prop} (hT : ∀ i b, T i b → b = true) : ∀ {m : Nat} {ys : List α}, Sel T A m ys → ys.length = m
  | _, _, .nil => rfl
  | _, _, .no h t => Bool.noConfusion (hT _ _ t)
  | _, _, .yes h _ _ => by rw [List.length_append, sel_len hT h] <;> rfl
theorem ty_dnew : Ty G 0 tDNewK Γ (· = Dat.dic) := fun z B σ H en s hz Q q => fun p hp => by
  have n2 := Nx.alloc (o := .dK []) s hp
  exact q _ _ _ _ _ rfl n2 (.dic upd_same)
theorem cutL_len (xs : List α) (lo hi : Option Int) : (cutL xs lo hi).length ≤ xs.length := by
  unfold cutL
  rw [List.length_take, List.length_drop]
  omega
theorem word_lt (w : Int) (d : Dat) : (d.whole && (decide (0 ≤ d.toI) && decide (d.toI < 2 ^ w.toNat))) = d.word w := by
  unfold Dat.word top
  rw [Dat.within_eq, decide_eq_decide.mpr (show d.toI < 2 ^ w.toNat ↔ d.toI ≤ 2 ^ w.toNat - 1 by omega)]
end
/-! xs[::e], e evaluates to -1 -/
def tRevS (K : PySem.W.Frag) (te ts : TE) : TE := fun σ H Q => te σ H fun x H1 => ts σ H1 fun y H2 => ∃ a xs, x = .ref a ∧ y = .int (-1) ∧ SqL K H2 a xs ∧ ∀ p, H2 p = none → Q (.ref p) (upd H2 p (.lst xs.reverse))
theorem ty_revS {K : PySem.W.Frag} {G : Option Addr} {c1 c2 : Nat} {te ts : TE} {Γ : Ctx} {α : Type} [Py α] {xs : List α} (h : Ty G c1 te Γ (· = xs)) (h2 : Ty G c2 ts Γ (· = (-1 : Int))) : Ty G (c1 + c2) (tRevS K te ts) Γ (· = xs.reverse) := fun z B σ H en s hz Q q => by
  refine h z B σ H en s (by omega) _ fun x v z1 B1 H1 ex n1 hv => ?_
  refine h2 z1 B1 σ H1 (en.up n1.up) n1.at_ (by have := n1.hi; omega) _ fun y w z2 B2 H2 ey n2 hw => ?_
  subst ex ey
  obtain ⟨a, us, rfl, e1, e2⟩ := hv
  refine ⟨a, us, rfl, hw, sq_of (n2.at_.ex _ _ (n2.up _ _ e1)), fun p hp => ?_⟩
  obtain ⟨n4, is4⟩ := new_list n2.at_ hp (e2.ex n2.up).rev
  exact q _ _ _ _ _ rfl (((n1.trans s n2).trans s n4).le (by omega)) is4
section
variable {X : Cx}
theorem pe_revS {e : Expr} {te : TE} {k k' : Nat} {p1 p2 p3 pos q1 : Pos} (he : PE X e te) {ts : TE} (hs : PE X (.BinOp (.Constant (.int 0) k p1) .Sub (.Constant (.int 1) k' q1) p2) ts) :
    PE X (.Subscript e (.Slice none none (some (.BinOp (.Constant (.int 0) k p1) .Sub (.Constant (.int 1) k' q1) p2)) p3) pos) (tRevS X.K te ts) := by
  refine ⟨fun pins s σ H Q I h => ?_⟩
  refine Subscript_ (thn (he.run pins s σ H _ I h) fun v sa hv => ?_)
  obtain ⟨x, Ha, Ia, rx, want⟩ := hv
  have none1 := po_none (X := X)
  refine wpAny_Slice (thn (none1.run pins sa σ Ha (fun o Hb => o = none ∧ Hb = Ha) Ia ⟨rfl, rfl⟩) fun vl sb hb => ?_)
  obtain ⟨l, Hb, Ib, pl, el, eb⟩ := hb
  subst el eb
  refine thn (none1.run pins sb σ Hb (fun o Hc => o = none ∧ Hc = Hb) Ib ⟨rfl, rfl⟩) fun vu sc hc => ?_
  obtain ⟨u, Hc, Ic, pu, eu, ec⟩ := hc
  subst eu ec
  refine thn ((po_some hs).run pins sc σ Hc (fun o Hd => o = some (-1) ∧ ∃ a xs, x = .ref a ∧ SqL X.K Hd a xs ∧ ∀ p, Hd p = none → Q (.ref p) (upd Hd p (.lst xs.reverse))) Ic ?_) fun vs sd hd => ?_
  · have want' : ts σ Hc fun y H2 => ∃ a xs, x = .ref a ∧ y = .int (-1) ∧ SqL X.K H2 a xs ∧ ∀ p, H2 p = none → Q (.ref p) (upd H2 p (.lst xs.reverse)) := want
    have e : (fun (y : V) (H2 : Hp) => ∃ a xs, x = .ref a ∧ y = .int (-1) ∧ SqL X.K H2 a xs ∧ ∀ p, H2 p = none → Q (.ref p) (upd H2 p (.lst xs.reverse))) =
        fun (y : V) (H2 : Hp) => ∃ i, y = .int i ∧ (some i = some (-1) ∧ ∃ a xs, x = .ref a ∧ SqL X.K H2 a xs ∧ ∀ p, H2 p = none → Q (.ref p) (upd H2 p (.lst xs.reverse))) := by
      funext y H2
      refine propext ⟨fun ⟨a, xs, h1, h2, h3, h4⟩ => ⟨-1, h2, rfl, a, xs, h1, h3, h4⟩, fun ⟨i, h1, h2, a, xs, h3, h4, h5⟩ => ?_⟩
      injection h2 with h2
      subst h2
      exact ⟨a, xs, h3, h1, h4, h5⟩
    show ts σ Hc fun (y : V) (H2 : Hp) => ∃ i, y = .int i ∧ (some i = some (-1) ∧ ∃ a xs, x = .ref a ∧ SqL X.K H2 a xs ∧ ∀ p, H2 p = none → Q (.ref p) (upd H2 p (.lst xs.reverse)))
    rw [← e]
    exact want'
  obtain ⟨o, Hd, Id, ps, eo, a, xs, ex, hx, go⟩ := hd
  subst eo ex
  cases rx
  generalize hsl : sd.heap.push { cls := .type "slice", data := .fields #[vl, vu, vs] } = hp'
  have Ie : Inv X pins σ Hd { sd with heap := hp' } := by
    subst hsl
    exact Id.kept (t' := sd.toks) fun b ob z => Heap.get?_push_of_some _ z
  obtain ⟨its, r, ht, hz⟩ := Ie.list hx
  have hlen := r.length
  subst hsl
  refine tail_any (ops := [.ref a, .ref sd.heap.objs.size]) ht.isList.typeIs (PySem.slot_list_getitem.lookup) ?_ (by with_unfolding_all rfl)
  refine wpAny_getItem_list_slice ht.isList (Heap.IsSliceOf.new _ vl vu vs) pl pu ps (by decide) ?_ (by simp only [List.size_toArray]; omega)
  rw [PySem.W.krv_pick]
  refine ⟨.ref _, _, Ie.laid (t' := sd.toks) (o := .lst xs.reverse) (fun b ob z => Heap.get?_push_of_some _ z) (Nat.le_refl _) ?_, rfl, go _ (Ie.hok.fresh (Nat.le_refl _))⟩
  exact ⟨by simp only [List.length_reverse]; exact hz, _, 0, r.reverse, Heap.get?_push_size _ rfl⟩
end
end AP
set_option maxHeartbeats 4000000
/-! repr of values of any kind; the law's def. -/
namespace AP
open PySem PySem.Spec PyProof.Rows L2 Evl
mutual
def Dat.py : Dat → PyData
  | .non => .none
  | .bl b => .bool b
  | .int n => .int n
  | .str s => .str s
  | .lst ds => .list (pyAll ds)
  | .tup ds => .tuple (pyAll ds)
  | .dic => .dict []
def pyAll : List Dat → List PyData
  | [] => []
  | d :: ds => d.py :: pyAll ds
end
/-- how deep, how heavy a value is whose repr is asked -/
structure Rp (k W : Nat) (d : Dat) : Prop where
  show_ : d.py.showable = true
  nodict : d.py.hasDict = false
  short : d.py.leavesShort 40 = true
  lay : d.py.canLay0 = true
  depth : d.py.depth ≤ k
  wt : d.py.weight ≤ W
theorem Rp.mono {k k' W W' : Nat} {d : Dat} (h : Rp k W d) (a : k ≤ k') (b : W ≤ W') : Rp k' W' d := ⟨h.show_, h.nodict, h.short, h.lay, Nat.le_trans h.depth a, Nat.le_trans h.wt b⟩
mutual
theorem DatV.dp {K : PySem.W.Frag} {B H : Hp} (e : Ex B H) : ∀ {d : Dat} {v : V}, DatV B d v → d.py.hasDict = false → Dp K H v d.py
  | _, _, .non, _ => .non
  | _, _, .bl b, _ => .bl b
  | _, _, .int n, _ => .int n
  | _, _, .str s, _ => .str s
  | _, _, .lst h r, k => .lst (sq_of (e _ _ h)) (DatVs.dp e r k)
  | _, _, .tup h r, k => .tup (st_of (e _ _ h)) (DatVs.dp e r k)
  | _, _, .dic _, k => by cases k
theorem DatVs.dp {K : PySem.W.Frag} {B H : Hp} (e : Ex B H) : ∀ {d : List Dat} {v : List V}, DatVs B d v → PyData.hasDictAll (pyAll d) = false → DpAll K H v (pyAll d)
  | _, _, .nil, _ => .nil
  | d :: ds, _, .cons h r, k => by
    have k' : (d.py.hasDict || PyData.hasDictAll (pyAll ds)) = false := k
    rw [Bool.or_eq_false_iff] at k'
    exact .cons (DatV.dp e h k'.1) (DatVs.dp e r k'.2)
end
/-! a def that is called where no repr is under way -/
structure FoG (P : Program) (w : World) (K : PySem.W.Frag) (mg : Str → Option Value) (base : Heap) (x : Str) (k : Nat) (ps : List Str) (sp : Sp) : Prop where
  ex : ∃ (f : Addr) (fd : FuncData), mg x = some (.ref f) ∧ PySem.W.keepIn K (.ref f) = true ∧ Binds K fd ps [] ∧ FnG P w K mg base CX0 k f fd ps sp
theorem FoG.mk' {P : Program} {w : World} {K : PySem.W.Frag} {mg : Str → Option Value} {base : Heap} {x qual : Str} {st : Stmt} {f : Addr} {fd : FuncData} {ps : List Str} {k : Nat} {sp : Sp} (F : Df K x qual st [] f fd) (m : mg x = some (.ref f)) (G : FnG P w K mg base CX0 k f fd ps sp)
    (b : ∀ (kV doc pm : Value) (an : Option Addr) (cdv ct : Value) (us : List Value), us.length = ps.length → bindArgs (PySem.W.fnOf x qual (defArgs st) (defBody st) (defScope st) .none kV doc pm an cdv ct) ⟨us, []⟩ = pure (ps.zip us)) :
    FoG P w K mg base x k ps sp := ⟨f, fd, m, F.kp, FunD.bindsN F b, G⟩
section
variable {X : Cx} {k : Nat} {ps : List Str} {sp : Sp} {x : Str} {p pos : Pos} {e : Expr} {es : List Expr} {t : TA}
theorem pe_fog (F : FoG X.prog X.w X.K X.mg X.base x k ps sp) (ng : X.A.guards = some []) (hr : Room k X.A) (hg : Gl X x) (ha : PA X (e :: es) t) (hdb : (x == ("__debug__" : Str)) = false := by decide)
    (he : starEach (e :: es) X.env = (false, eval e X.env) :: starEach es X.env := by rfl)
    (hpl : (backTo pos (starEach es X.env)).any (·.1) = false := by rfl) :
    PE X (.Call (.Name x p) (e :: es) [] pos) (tCall sp [] (fun _ _ _ => False) t) := by
  obtain ⟨f, fd, m, kp, b, G⟩ := F.ex
  exact pe_callG G ng hr hg m kp b .nil pass0 ha hdb he hpl
end
/-- the law's script in a slot -/
def ScP (K : PySem.W.Frag) (a : Addr) (ns : List Int) : VP := fun v B => v = .ref a ∧ SqL K B a (ns.map V.int)
theorem ScP.stays {K : PySem.W.Frag} {a : Addr} {ns : List Int} : Stays (ScP K a ns) := fun _ _ _ e h => ⟨h.1, ex_l e h.2⟩
end AP
set_option maxHeartbeats 4000000
/-! list(range(..)); the law's promise. -/
namespace AP
open PySem PySem.Spec PyProof.Rows L2 Evl
/-- the law's def: True, whatever the script -/
def spLaw (K : PySem.W.Frag) : Sp := fun vs H Q _ => ∃ (a : Addr) (ns : List Int), vs = [.ref a] ∧ SqL K H a (ns.map V.int) ∧ ∀ H', Q (.bl true) H'
theorem at_none {H : Hp} {z : Int} : At none z H H := ⟨Ex.refl H, fun _ e => by cases e⟩
theorem slo_law {K : PySem.W.Frag} {H : Hp} {a : Addr} {ns : List Int} {N : List Str} (h : SqL K H a (ns.map V.int)) : Slo H (L2.start N [.ref a]) (ctx0 N.length [ScP K a ns]) := Slo.start (.cons ScP.stays ⟨rfl, h⟩ .nil)
end AP
set_option maxHeartbeats 4000000
/-! Dicts of ints by ints: made, walked, asked for the least value. -/
namespace AP
open PySem PySem.Spec PyProof.Rows L2 Evl
structure DictI where
  kvs : List (Int × Int)
def kvI (p : Int × Int) : Key × V := (Sum.inl p.1, V.int p.2)
instance : Py DictI := ⟨fun d v B => ∃ p, v = .ref p ∧ B p = some (.dK (d.kvs.map kvI)), fun _ _ _ _ e ⟨p, h1, h2⟩ => ⟨p, h1, e _ _ h2⟩⟩
section
variable {K : PySem.W.Frag} {G : Option Addr} {c c1 c2 ct ck cv : Nat} {te td tk tv : TE} {tt : TT} {Γ : AP.Ctx} {α : Type} [Py α] {B B' H : Hp}
/-! a dict that is locked while it is walked -/
def FrzP (d : Addr) (o : Obj) (D : DictI) : VP := fun v B => v = .ref d ∧ B d = some (.frz o (.dK (D.kvs.map kvI)))
theorem FrzP.stays {d : Addr} {o : Obj} {D : DictI} : Stays (FrzP d o D) := fun _ _ _ e h => ⟨h.1, e _ _ h.2⟩
/-- a thing told whatever the heap -/
def Flat (P : VP) : Prop := ∀ v B B', P v B → P v B'
theorem flat_int (n : Int) : Flat (Py.is n) := fun _ _ _ h => h
/-! a dict comprehension over anything: the turns' keys are all unlike -/
end
end AP
set_option maxHeartbeats 4000000
/-! Lists that grow by append; the twos of a number. -/
namespace AP
open PySem PySem.Spec PyProof.Rows L2 Evl
/-- a list that may grow: nothing is told of what it holds -/
def RefP (l : Addr) : VP := fun v _ => v = .ref l
theorem RefP.stays {l : Addr} : Stays (RefP l) := fun _ _ _ _ h => h
section
variable {K : PySem.W.Frag} {G : Option Addr} {c c0 c1 c2 : Nat} {te ta tb : TE} {Γ : AP.Ctx} {α : Type} [Py α] {A : α → Prop} {B B' H B0 H0 : Hp} {v w : V} {σ : L2.St} {z z0 : Int} {D : Ends} {tz : TS}
theorem Slo.renew (en : Slo B σ Γ) {k : Nat} {l : Addr} {P : VP} (h : Γ[k]? = some (some (RefP l))) (st : Stays P) (p : P (.ref l) B) : Slo B σ (Γ.set k (some P)) := by
  obtain ⟨v, h1, _, h2⟩ := en.all k _ h
  cases (show v = .ref l from h2)
  have e := en.set (i := k) st p
  have lt : k < σ.length := (List.getElem?_eq_some_iff.mp h1).1
  have : σ.set k (some (.ref l)) = σ := by
    apply List.ext_getElem?
    intro m
    by_cases hm : k = m
    · subst hm
      rw [List.getElem?_set_self lt, h1]
    · rw [List.getElem?_set_ne hm]
  rw [this] at e
  exact e
theorem q_appS (s0 : At G z0 B0 H0) (n : Nx G c0 z0 B0 H0 z B H) (en : Slo B σ Γ) {k : Nat} {l : Addr} {us : List V} (hk : Γ[k]? = some (some (RefP l))) (hl : H l = some (.lst us)) (nl : B l = none) (n0 : H0 l = none) (small : us.length < 100000)
    (h : Ty G c te Γ A) (hz : z0 + (c0 + c) ≤ 2 ^ 50)
    (kk : ∀ x v z' B' H', A x → Py.is x v B' → Ex B B' → Nx G (c0 + c) z0 B0 H0 z' B' H' → Slo B' σ Γ → H' l = some (.lst (us ++ [v])) → B' l = none → (∀ a o, G ≠ some a → a ≠ l → H a = some o → H' a = some o) → (∀ a o, B' a = some o → B a = some o ∨ NewT H a o) → tz D σ H') :
    tSeq (tDrop (tBM K "list" rAppend (tVar k) (tCons te tNil))) tz D σ H := by
  obtain ⟨u, e1, _, eu⟩ := en.all k _ hk
  cases (show u = .ref l from eu)
  have gl : G ≠ some l := fun hg => by
    obtain ⟨_, _, _, q1, _⟩ := s0.gen l hg
    rw [q1] at n0
    cases n0
  refine ⟨.ref l, e1, Or.inl ⟨rfl, us, sq_of hl⟩, ?_⟩
  refine h z B σ H en n.at_ (by have := n.hi; omega) _ fun x v z1 B1 H1 ax n1 hv => ?_
  have hl1 := n1.keep l _ gl hl
  have nl1 : B1 l = none := by
    cases e : B1 l with
    | none => rfl
    | some o =>
      rcases n1.new l o e with h | h
      · rw [nl] at h; cases h
      · exact (h.no hl).elim
  have nn := n.trans s0 n1
  refine ⟨l, us, v, rfl, rfl, hl1, sz_lt small, ?_⟩
  refine kk x v z1 B1 _ ax hv n1.up ⟨⟨fun a o ha => ?_, fun g hg => ?_⟩, nn.up, nn.new, nn.lo, nn.hi, fun a o hg ha => ?_⟩ (en.up n1.up) upd_same nl1 (fun a o hg hne ha => ?_) n1.new
  · rw [upd_ne (ne_of_none ha nl1)]
    exact nn.at_.ex a o ha
  · obtain ⟨q1, x, y, q2, q3⟩ := nn.at_.gen g hg
    exact ⟨q1, x, y, by rw [upd_ne (fun z => gl (by rw [hg, z]))]; exact q2, q3⟩
  · rw [upd_ne (ne_of_none ha n0)]
    exact nn.keep a o hg ha
  · rw [upd_ne hne]
    exact n1.keep a o hg ha
theorem Nx.freeze {c : Nat} {l : Addr} {o : HO} (s0 : At G z0 B0 H0) (n : Nx G c z0 B0 H0 z B H) (hl : H l = some o) (nl : B l = none) (n0 : H0 l = none) : Nx G c z0 B0 H0 z (upd B l o) H ∧ Ex B (upd B l o) := by
  have gl : G ≠ some l := fun hg => by
    obtain ⟨_, _, _, q1, _⟩ := s0.gen l hg
    rw [q1] at n0
    cases n0
  refine ⟨⟨⟨fun a u ha => ?_, fun g hg => ?_⟩, n.up.trans (Ex.new nl), fun a u ha => ?_, n.lo, n.hi, n.keep⟩, Ex.new nl⟩
  · by_cases e : a = l
    · subst e
      rw [upd_same] at ha
      rw [hl, ha]
    · rw [upd_ne e] at ha
      exact n.at_.ex a u ha
  · obtain ⟨q1, q2⟩ := n.at_.gen g hg
    exact ⟨by rw [upd_ne (fun z => gl (by rw [hg, z]))]; exact q1, q2⟩
  · by_cases e : a = l
    · subst e
      exact .inr (.inl n0)
    · rw [upd_ne e] at ha
      exact n.new a u ha
end
/-! ### the twos of a number -/
def twF : Nat → Nat → Nat
  | 0, _ => 0
  | f + 1, n => if n ≠ 0 ∧ n % 2 = 0 then twF f (n / 2) + 1 else 0
def twosN (n : Nat) : Nat := twF (n.log2 + 1) n
theorem twosN_step (n : Nat) : twosN n = if n ≠ 0 ∧ n % 2 = 0 then twosN (n / 2) + 1 else 0 := by
  unfold twosN
  rw [twF]
  by_cases h : n ≠ 0 ∧ n % 2 = 0
  · rw [if_pos h, if_pos h]
    have e : n.log2 = (n / 2).log2 + 1 := by
      have h2 : n ≥ 2 := by omega
      rw [Nat.log2_def, if_pos h2]
    rw [e]
  · rw [if_neg h, if_neg h]
theorem twosN_even {n : Nat} (h0 : n ≠ 0) (h : n % 2 = 0) : twosN n = twosN (n / 2) + 1 := by
  rw [twosN_step, if_pos ⟨h0, h⟩]
theorem twosN_odd {n : Nat} (h : n % 2 = 1) : twosN n = 0 := by
  rw [twosN_step, if_neg fun q => by omega]
def twos (n : Int) : Int := (twosN n.natAbs : Nat)
theorem twos_odd {n : Int} (h : n % 2 = 1) : twos n = 0 := by
  unfold twos
  rw [twosN_odd (by omega)] <;> rfl
theorem twos_even {n : Int} (h0 : n ≠ 0) (h : n % 2 = 0) : twos n = twos (n / 2) + 1 := by
  unfold twos
  rw [twosN_even (by omega) (by omega), show (n / 2).natAbs = n.natAbs / 2 by omega]
  omega
theorem twos_nonneg (n : Int) : 0 ≤ twos n := Int.natCast_nonneg _
theorem low_bit (n : Nat) : n ≠ 0 → n - (n &&& (n - 1)) = 2 ^ twosN n := by
  induction n using Nat.strongRecOn with
  | ind n ih =>
    intro h0
    have d1 : (n &&& (n - 1)) / 2 = n / 2 &&& (n - 1) / 2 := Nat.and_div_two ..
    have m1 : (n &&& (n - 1)) % 2 = (n % 2) &&& ((n - 1) % 2) := by
      rw [← Nat.and_one_is_mod, ← Nat.and_one_is_mod, ← Nat.and_one_is_mod]
      apply Nat.eq_of_testBit_eq
      intro i
      simp only [Nat.testBit_and]
      cases Nat.testBit n i <;> cases Nat.testBit (n - 1) i <;> cases Nat.testBit 1 i <;> rfl
    rcases Nat.mod_two_eq_zero_or_one n with e | e
    · have e2 : (n - 1) % 2 = 1 := by omega
      rw [e, e2] at m1
      have m1 : (n &&& (n - 1)) % 2 = 0 := m1
      have h3 : (n - 1) / 2 = n / 2 - 1 := by omega
      rw [h3] at d1
      have := ih (n / 2) (by omega) (by omega)
      have le : (n / 2 &&& (n / 2 - 1)) ≤ n / 2 := Nat.and_le_left
      rw [twosN_even h0 e, Nat.pow_succ, ← this]
      omega
    · have e2 : (n - 1) % 2 = 0 := by omega
      rw [e, e2] at m1
      have m1 : (n &&& (n - 1)) % 2 = 0 := m1
      have h3 : (n - 1) / 2 = n / 2 := by omega
      rw [h3, Nat.and_self] at d1
      rw [twosN_odd e]
      show _ = 1
      omega
theorem twos_bits {n : Int} (h : n ≠ 0) : ((Builtin.Int.intBits (Builtin.bitAnd n (-n)) : Nat) : Int) - 1 = twos n := by
  have key : ∀ m : Int, 0 < m → Builtin.bitAnd m (-m) = ((2 ^ twosN m.natAbs : Nat) : Int) := fun m hm => by
    rw [bitAnd_pn (by omega) (by omega)]
    have e : (Builtin.bitNot (-m)).toNat = m.natAbs - 1 := by
      show (-(-m) - 1).toNat = _
      omega
    have := low_bit m.natAbs (by omega)
    have le : (m.natAbs &&& (m.natAbs - 1)) ≤ m.natAbs := Nat.and_le_left
    rw [e, show m.toNat = m.natAbs by omega]
    omega
  have both : Builtin.bitAnd n (-n) = ((2 ^ twosN n.natAbs : Nat) : Int) := by
    rcases Int.lt_or_gt_of_ne h with lt | gt
    · rw [bitAnd_comm]
      have := key (-n) (by omega)
      rw [Int.neg_neg, Int.natAbs_neg] at this
      exact this
    · exact key n gt
  rw [both]
  unfold Builtin.Int.intBits twos
  have pos := Nat.two_pow_pos (twosN n.natAbs)
  have ne : ((2 ^ twosN n.natAbs : Nat) : Int) ≠ 0 := fun e => by
    have := Int.ofNat.inj e
    omega
  rw [if_neg (by rw [beq_iff_eq]; exact ne), Int.natAbs_natCast, Nat.log2_two_pow]
  omega
end AP
set_option maxHeartbeats 4000000
/-! Good orders: what the program's loop does, as a function of Lean. -/
namespace AP
open PySem PySem.Spec PyProof.Rows L2 Evl
abbrev KC := List (Int × Int)
/-- the first of the least -/
def pickMin : KC → Option (Int × Int)
  | [] => none
  | x :: r => match pickMin r with
    | none => some x
    | some y => if x.2 ≤ y.2 then some x else some y
def behind (kvs : KC) (t : Int) : KC := (kvs.filter fun p => decide (p.1 ≠ t)).map fun p => (p.1, p.2 + twos (p.1 - t))
def orun : Nat → KC → KC
  | 0, _ => []
  | n + 1, kvs => match pickMin kvs with
    | none => []
    | some x => x :: orun n (behind kvs x.1)
def run0 (ps : List Int) : KC := orun ps.length (ps.map fun p => (p, 0))
def orderOf (ps : List Int) : List Int := (run0 ps).map (·.1)
def numbersOf (ps : List Int) : List Int := (run0 ps).map (·.2)
theorem pick_some : ∀ {kvs : KC}, kvs ≠ [] → ∃ x, pickMin kvs = some x ∧ x ∈ kvs ∧ (∀ y ∈ kvs, x.2 ≤ y.2) ∧ ((kvs.filter fun p => decide (p.2 = x.2)).map (·.1))[0]? = some x.1
  | [], h => absurd rfl h
  | [x], _ => ⟨x, rfl, by simp, by simp, by simp⟩
  | x :: z :: r, _ => by
    obtain ⟨y, h1, h2, h3, h4⟩ := pick_some (kvs := z :: r) (by simp)
    by_cases h : x.2 ≤ y.2
    · refine ⟨x, ?_, by simp, fun w hw => ?_, ?_⟩
      · show (match pickMin (z :: r) with | none => some x | some y => if x.2 ≤ y.2 then some x else some y) = some x
        rw [h1]
        show (if x.2 ≤ y.2 then some x else some y) = some x
        rw [if_pos h]
      · rcases List.mem_cons.mp hw with rfl | hw
        · exact Int.le_refl _
        · exact Int.le_trans h (h3 w hw)
      · rw [List.filter_cons, if_pos (by simp)]
        rfl
    · refine ⟨y, ?_, List.mem_cons_of_mem _ h2, fun w hw => ?_, ?_⟩
      · show (match pickMin (z :: r) with | none => some x | some y => if x.2 ≤ y.2 then some x else some y) = some y
        rw [h1]
        show (if x.2 ≤ y.2 then some x else some y) = some y
        rw [if_neg h]
      · rcases List.mem_cons.mp hw with rfl | hw
        · omega
        · exact h3 w hw
      · rw [List.filter_cons, if_neg (by simp; omega)]
        exact h4
theorem behind_keys (kvs : KC) (t : Int) : (behind kvs t).map (·.1) = (kvs.map (·.1)).filter fun k => decide (k ≠ t) := by
  unfold behind
  rw [List.map_map, List.filter_map]
  rfl
theorem filter_one {t : Int} : ∀ {ks : List Int}, ks.Nodup → t ∈ ks → (ks.filter fun k => decide (k ≠ t)).length + 1 = ks.length
  | [], _, h => by cases h
  | k :: ks, nd, h => by
    have nd' := List.nodup_cons.mp nd
    by_cases e : k = t
    · subst e
      rw [List.filter_cons, if_neg (by simp), List.filter_eq_self.mpr fun x hx => by simp; exact fun e => nd'.1 (e ▸ hx)]
      rfl
    · rw [List.filter_cons, if_pos (by simp; exact e), List.length_cons, List.length_cons, filter_one nd'.2 (by
        rcases List.mem_cons.mp h with h | h
        · exact absurd h.symm e
        · exact h)]
theorem behind_len {kvs : KC} {t : Int} (nd : (kvs.map (·.1)).Nodup) (h : t ∈ kvs.map (·.1)) : (behind kvs t).length + 1 = kvs.length := by
  have := filter_one nd h
  rw [← behind_keys, List.length_map, List.length_map] at this
  exact this
theorem behind_nodup {kvs : KC} {t : Int} (nd : (kvs.map (·.1)).Nodup) : ((behind kvs t).map (·.1)).Nodup := by
  rw [behind_keys]
  exact nd.filter _
theorem orun_cons {kvs : KC} {x : Int × Int} (nd : (kvs.map (·.1)).Nodup) (h : pickMin kvs = some x) (hx : x ∈ kvs) : orun kvs.length kvs = x :: orun (behind kvs x.1).length (behind kvs x.1) := by
  have := behind_len nd (List.mem_map.mpr ⟨x, hx, rfl⟩)
  rw [← this, orun, h]
/-! contracts -/
def cTwosIn : Con Int Int := ⟨fun n => [Py.is n], fun n _ => n ≠ 0, fun _ => 0, fun n t => t = twos n⟩
theorem Places.nodup {w : Int} {ps : List Int} (h : Places w ps) : ps.Nodup ∧ ∀ p ∈ ps, 0 ≤ p ∧ p ≤ top w := by
  obtain ⟨h, _⟩ := h
  have h : ((ps.map Dat.int).all (Dat.word w) && (decide (0 < (ps.map Dat.int).length) && climbs ((ps.map Dat.int).map Dat.toI))) = true := h
  rw [List.map_map, show ps.map (Dat.toI ∘ Dat.int) = ps from List.map_id _] at h
  simp only [Bool.and_eq_true] at h
  obtain ⟨h1, _, h3⟩ := h
  unfold climbs at h3
  rw [List.all_eq_true] at h3
  have step : ∀ i, i + 1 < ps.length → ps.getD i 0 < ps.getD (i + 1) 0 := fun i hi => of_decide_eq_true (h3 i (List.mem_range.mpr (by omega)))
  have lt : ∀ i j, i < j → j < ps.length → ps.getD i 0 < ps.getD j 0 := by
    intro i j hij
    induction j with
    | zero => omega
    | succ j ih =>
      intro hj
      rcases Nat.lt_or_ge i j with h | h
      · exact Int.lt_trans (ih h (by omega)) (step j hj)
      · have : i = j := by omega
        subst this
        exact step i hj
  refine ⟨List.pairwise_iff_getElem.mpr fun i j hi hj hij e => ?_, fun p hp => ?_⟩
  · have := lt i j hij hj
    rw [List.getD_eq_getElem?_getD, List.getD_eq_getElem?_getD, List.getElem?_eq_getElem hi, List.getElem?_eq_getElem hj] at this
    have this : ps[i] < ps[j] := this
    omega
  · have := List.all_eq_true.mp h1 (.int p) (List.mem_map.mpr ⟨p, hp, rfl⟩)
    exact Dat.within_int this
end AP
set_option maxHeartbeats 4000000
/-! A generator in a slot; lists that grow and are read in between; the draws of places that most laws share. -/
namespace AP
open PySem PySem.Spec PyProof.Rows L2 Evl
/-! what the draws of places say -/
def AscN (w m : Int) (ps : List Int) : Prop := 0 < ps.length ∧ (ps.length : Int) ≤ m ∧ (∀ p ∈ ps, 0 ≤ p ∧ p < 2 ^ w.toNat) ∧ ps.Pairwise (· < ·)
theorem climbs_up {ns : List Int} (h : ns.Pairwise (· < ·)) : climbs ns = true := by
  unfold climbs
  rw [List.all_eq_true]
  intro i hi
  have hi := List.mem_range.mp hi
  have h1 : i < ns.length := by omega
  have h2 : i + 1 < ns.length := by omega
  rw [decide_eq_true_eq, List.getD_eq_getElem?_getD, List.getD_eq_getElem?_getD, List.getElem?_eq_getElem h1, List.getElem?_eq_getElem h2]
  exact List.pairwise_iff_getElem.mp h i (i + 1) h1 h2 (Nat.lt_succ_self i)
theorem word_in {w p : Int} (h : 0 ≤ p ∧ p < 2 ^ w.toNat) : (Dat.int p).word w = true := by
  show (decide (0 ≤ p) && decide (p ≤ 2 ^ w.toNat - 1)) = true
  rw [decide_eq_true h.1, decide_eq_true (by omega)] <;> rfl
theorem AscN.places {w m : Int} {ps : List Int} (h : AscN w m ps) (hm : m ≤ 30000) : Places w ps := by
  refine ⟨?_, by have := h.2.1; omega⟩
  show ((ps.map Dat.int).all (Dat.word w) && (decide (0 < (ps.map Dat.int).length) && climbs ((ps.map Dat.int).map Dat.toI))) = true
  rw [List.map_map, List.length_map, decide_eq_true h.1, show ps.map (Dat.toI ∘ Dat.int) = ps from List.map_id _, climbs_up h.2.2.2, List.all_map]
  simp only [Bool.and_true, List.all_eq_true]
  exact fun x hx => word_in (h.2.2.1 x hx)
theorem AscN.nodup {w m : Int} {ps : List Int} (h : AscN w m ps) : ps.Nodup := h.2.2.2.imp fun h => by omega
theorem sorted_asc {w m : Int} {l ns : List Int} (pm : l.Perm ns) (so : l.Pairwise (· ≤ ·)) (nd : ns.Nodup) (h0 : 0 < ns.length) (hm : (ns.length : Int) ≤ m) (bd : ∀ p ∈ ns, 0 ≤ p ∧ p < 2 ^ w.toNat) : AscN w m l := by
  have ndL : l.Nodup := pm.symm.nodup nd
  refine ⟨by rw [pm.length_eq]; exact h0, by rw [pm.length_eq]; exact hm, fun p hp => bd p (pm.mem_iff.mp hp), ?_⟩
  have : l.Pairwise (fun a b : Int => a ≤ b ∧ a ≠ b) := List.Pairwise.and so ndL
  exact this.imp fun h => by omega
/-! pigeons -/
/-! more of loops -/
section
variable {K : PySem.W.Frag} {G : Option Addr} {c c0 c1 c2 : Nat} {te ta tb : TE} {tt : TT} {t : TS} {Γ : AP.Ctx} {α β : Type} [Py α] [Py β] {A : α → Prop} {A1 : β → Prop} {B B' H H' B0 H0 Ba Ha Bb Hb : Hp} {v w : V} {σ : L2.St} {z z' z0 za zb : Int} {D : Ends} {tz : TS}
theorem At.ne {l : Addr} (s0 : At G z0 B0 H0) (h : H0 l = none) : G ≠ some l := fun hg => by
  obtain ⟨_, _, _, q1, _⟩ := s0.gen l hg
  rw [q1] at h
  cases h
theorem Nx.keepL {l : Addr} {o : HO} (nx : Nx G c za Ba Ha zb Bb Hb) (hg : G ≠ some l) (hl : Ha l = some o) (hb : Ba l = none) (nt : ∀ xs, o ≠ .tup xs := by intro _ q; cases q) : Hb l = some o ∧ Bb l = none := by
  refine ⟨nx.keep l o hg hl, ?_⟩
  cases e : Bb l with
  | none => rfl
  | some u =>
    rcases nx.new l u e with h | h
    · rw [hb] at h; cases h
    · exact (h.no hl nt).elim
theorem cutL_from {xs : List α} {m : Int} (h : 0 ≤ m) : cutL xs (some m) none = xs.drop m.toNat := by
  obtain ⟨k, rfl⟩ : ∃ k : Nat, m = k := ⟨m.toNat, by omega⟩
  unfold cutL
  rw [HT.sIx_none, HT.sIx_nat, Int.toNat_natCast]
  by_cases hk : k ≤ xs.length
  · rw [Nat.min_eq_left hk, List.take_of_length_le (by rw [List.length_drop]; exact Nat.le_refl _)]
  · rw [Nat.min_eq_right (by omega), List.drop_of_length_le (Nat.le_refl _), List.drop_of_length_le (by omega), List.take_nil]
end
/-- a list of ints that is at an address -/
structure LAt where
  at_ : Addr
  xs : List Int
instance : Py LAt := ⟨fun r v B => v = .ref r.at_ ∧ B r.at_ = some (.lst (r.xs.map V.int)), fun _ _ _ _ e h => ⟨h.1, e _ _ h.2⟩⟩
/-! each once -/
def freshB (found : List Int) (i : Nat) : Bool := !decide (found.getD i 0 ∈ found.take i)
def fresh (found : List Int) (k : Nat) : List Int := ((List.range k).filter (freshB found)).map fun i => found.getD i 0
end AP
set_option maxHeartbeats 4000000
/-! Results that are new: what is told may be changed by who asked. -/
namespace AP
open PySem PySem.Spec PyProof.Rows L2 Evl
/-- what is in the one and not in the other -/
def diff (B' B : Hp) : Hp := fun a => if B a = none then B' a else none
theorem diff_sub (B' B : Hp) : Ex (diff B' B) B' := fun a o h => by
  unfold diff at h
  split at h
  · exact h
  · cases h
theorem diff_up {B B1 B' : Hp} (e : Ex B1 B') : Ex (diff B1 B) (diff B' B) := fun a o h => by
  unfold diff at h ⊢
  split at h
  · rename_i hb
    rw [if_pos hb]
    exact e _ _ h
  · cases h
theorem diff_at {B' B : Hp} {a : Addr} {o : HO} (h : diff B' B a = some o) : B a = none ∧ B' a = some o := by
  unfold diff at h
  split at h
  · rename_i hb
    exact ⟨hb, h⟩
  · cases h
theorem Each.flat {α : Type} [Py α] (fl : ∀ y : α, Flat (Py.is y)) {B B' : Hp} : ∀ {xs : List α} {vs : List V}, Each B xs vs → Each B' xs vs
  | _, _, .nil => .nil
  | _, _, .cons h r => .cons (fl _ _ _ _ h) (Each.flat fl r)
/-- an expression whose value is new, all of it -/
def TyN (G : Option Addr) (c : Nat) (te : TE) (Γ : Ctx) {α : Type} [Py α] (A : α → Prop) : Prop :=
  ∀ z B σ H, Slo B σ Γ → At G z B H → z + c ≤ 2 ^ 50 → ∀ Q : VK, (∀ x v z' B' H', A x → Nx G c z B H z' B' H' → Py.is x v (diff B' B) → Q v H') → te σ H Q
section
variable {K : PySem.W.Frag} {G : Option Addr} {c c0 c1 c2 c3 : Nat} {te ta tb tx : TE} {tt tu : TT} {g : TG} {Γ : Ctx} {ι α β γ : Type} [Py α] [Py β] [Py γ] {A A' : α → Prop} {A1 : β → Prop} {Ps : List VP} {tr : TA} {B B' B0 H H0 : Hp} {v w : V} {z z0 : Int} {D : Ends} {tz : TS} {σ : L2.St}
theorem TyN.ty (h : TyN G c te Γ A) : Ty G c te Γ A := fun z B σ H en s hz Q q => h z B σ H en s hz Q fun x v z' B' H' a nx is => q x v z' B' H' a nx (Py.st _ _ _ _ (diff_sub B' B) is)
theorem TyN.imp (h : TyN G c te Γ A) (i : ∀ x, A x → A' x) : TyN G c te Γ A' := fun z B σ H en s hz Q q => h z B σ H en s hz Q fun x v z' B' H' a => q x v z' B' H' (i x a)
theorem TyN.to {x y : α} (h : TyN G c te Γ (· = x)) (e : x = y) : TyN G c te Γ (· = y) := e ▸ h
/-- new as from a fixed beginning -/
def NewP (B0 : Hp) {α : Type} [Py α] (x : α) : VP := fun v B => Py.is x v (diff B B0)
theorem NewP.stays {B0 : Hp} {x : α} : Stays (NewP B0 x) := fun _ _ _ e h => Py.st _ _ _ _ (diff_up e) h
theorem At.none (s0 : At G z0 B0 H0) {l : Addr} (h : H0 l = Option.none) : B0 l = Option.none := by
  cases e : B0 l with
  | none => rfl
  | some o => rw [s0.ex _ _ e] at h; cases h
end
/-! a def whose result is new -/
end AP
set_option maxHeartbeats 4000000
/-! zip of three lists. -/
namespace AP
open PySem PySem.Spec PyProof.Rows L2 Evl
end AP
set_option maxHeartbeats 4000000
/-! Words of polynomials. -/
namespace AP
open PySem PySem.Spec PyProof.Rows L2 Evl
theorem two_cast' (k : Nat) : ((2 : Int) ^ k) = ((2 ^ k : Nat) : Int) := by norm_cast
def wholesB : Dat → Bool
  | .lst ds => ds.all Dat.whole
  | _ => false
def wsOk (w : Int) (ps ws : List Int) : Prop := wordsAtB w ps.length (.lst (ws.map Dat.int)) = true ∧ ws.length ≤ 30000
def cAreWholes : Con Dat Bool := ⟨fun d => [Py.is d], fun d _ => d.small, fun _ => 0, fun d b => b = wholesB d⟩
theorem wsOk.len {w : Int} {ps ws : List Int} (h : wsOk w ps ws) : ws.length = ps.length := by
  have e : ((ws.map Dat.int).all (Dat.word w) && decide ((ws.map Dat.int).length = ps.length)) = true := h.1
  rw [Bool.and_eq_true] at e
  have := of_decide_eq_true e.2
  rwa [List.length_map] at this
theorem Places.range {w p : Int} {ps : List Int} (hw : wOk w) (h : Places w ps) (hp : p ∈ ps) : 0 ≤ p ∧ p.natAbs < 2 ^ 250 := by
  obtain ⟨h0, h1⟩ := h.nodup.2 p hp
  have hw : 1 ≤ w ∧ w ≤ 64 := hw
  have h1 : p ≤ 2 ^ w.toNat - 1 := h1
  rw [two_cast'] at h1
  have := Nat.pow_le_pow_right (n := 2) (by decide) (show w.toNat ≤ 64 by omega)
  refine ⟨h0, ?_⟩
  have : p.natAbs < 2 ^ 64 := by omega
  exact Nat.lt_trans this (by decide)
end AP
set_option maxHeartbeats 4000000
/-! Typed data: equality, repr; calls with drawn arguments; tests of a growing list; objects. -/
namespace AP
open PySem PySem.Spec PyProof.Rows L2 Evl
/-! ### none or a value -/
instance {α : Type} [Py α] : Py (Option α) := ⟨fun o v B => match o with | none => v = .non | some x => Py.is x v B, fun o v B B' e h => by
  cases o with
  | none => exact h
  | some x => exact Py.st x v B B' e h⟩
/-- three -/
structure T3 (α β γ : Type) where
  a : α
  b : β
  c : γ
instance {α β γ : Type} [Py α] [Py β] [Py γ] : Py (T3 α β γ) := ⟨fun x v B => ∃ p a b c, v = .ref p ∧ B p = some (.tup [a, b, c]) ∧ Py.is x.a a B ∧ Py.is x.b b B ∧ Py.is x.c c B,
  fun _ _ _ _ e ⟨p, a, b, c, h1, h2, h3, h4, h5⟩ => ⟨p, a, b, c, h1, e _ _ h2, Py.st _ _ _ _ e h3, Py.st _ _ _ _ e h4, Py.st _ _ _ _ e h5⟩⟩
section
variable {G : Option Addr} {c c1 c2 c3 : Nat} {te ta tb tc : TE} {Γ : Ctx} {α β γ : Type} [Py α] [Py β] [Py γ]
theorem Ty.opt {x : α} (h : Ty G c te Γ (· = x)) : Ty G c te Γ (· = some x) := h.cast fun _ _ q => q
/-- is None -/
theorem ty_isNO {x : Option α} (some_ : ∀ (y : α) v B, Py.is y v B → v ≠ .non) (ha : Ty G c1 ta Γ (· = x)) : Ty G (c1 + 0) (tOp rIsN0 ta (tC .non)) Γ (· = x.isNone) :=
  ty_isN ha fun v B h => by
    cases x with
    | none =>
      have h : v = .non := h
      rw [h] <;> rfl
    | some y => exact decide_eq_false (some_ y v B h)
end
/-! ### typed data -/
class DatOf (α : Type) [Py α] [DecidableEq α] where
  toD : α → Dat
  cast : ∀ (x : α) (v : V) (B : Hp), Py.is x v B → DatV B (toD x) v
  lay : ∀ x : α, (toD x).py.canLay0 = true
  nod : ∀ x : α, (toD x).py.hasDict = false
  dep : Nat
  depth : ∀ x : α, (toD x).py.depth ≤ dep
  eqv : ∀ x y : α, PyData.eqv (toD x).py (toD y).py = decide (x = y)
  notNone : ∀ x : α, PyData.eqv .none (toD x).py = false ∧ PyData.eqv (toD x).py .none = false
open DatOf (toD)
theorem dec_beq {α : Type} [DecidableEq α] (x y : α) : (x == y) = decide (x = y) := by
  by_cases h : x = y
  · rw [decide_eq_true h, h]; exact beq_self_eq_true y
  · rw [decide_eq_false h]; exact beq_false_of_ne h
instance : DatOf Int := ⟨Dat.int, fun _ _ _ h => dat_int h, fun _ => rfl, fun _ => rfl, 0, fun _ => Nat.le_refl _, fun x y => dec_beq x y, fun _ => ⟨rfl, rfl⟩⟩
instance : DatOf Bool := ⟨Dat.bl, fun x v _ h => by cases (show v = .bl x from h); exact .bl x, fun _ => rfl, fun _ => rfl, 0, fun _ => Nat.le_refl _, fun x y => dec_beq x y, fun _ => ⟨rfl, rfl⟩⟩
section
variable {α β : Type} [Py α] [DecidableEq α] [DatOf α] [Py β] [DecidableEq β] [DatOf β]
theorem each_dats {B : Hp} : ∀ {xs : List α} {vs : List V}, Each B xs vs → DatVs B (xs.map toD) vs
  | _, _, .nil => .nil
  | _, _, .cons h r => .cons (DatOf.cast _ _ _ h) (each_dats r)
theorem all_lay : ∀ xs : List α, PyData.canLayAll0 (pyAll (xs.map toD)) = true
  | [] => rfl
  | x :: xs => by show ((toD x).py.canLay0 && PyData.canLayAll0 (pyAll (xs.map toD))) = true; rw [DatOf.lay x, all_lay xs] <;> rfl
theorem all_nod : ∀ xs : List α, PyData.hasDictAll (pyAll (xs.map toD)) = false
  | [] => rfl
  | x :: xs => by show ((toD x).py.hasDict || PyData.hasDictAll (pyAll (xs.map toD))) = false; rw [DatOf.nod x, all_nod xs] <;> rfl
theorem all_depth : ∀ xs : List α, PyData.depthAll (pyAll (xs.map toD)) ≤ DatOf.dep α
  | [] => Nat.zero_le _
  | x :: xs => Nat.max_le.mpr ⟨DatOf.depth x, all_depth xs⟩
theorem all_eqv : ∀ xs ys : List α, PyData.eqvAll (pyAll (xs.map toD)) (pyAll (ys.map toD)) = decide (xs = ys)
  | [], [] => rfl
  | [], _ :: _ => rfl
  | _ :: _, [] => rfl
  | x :: xs, y :: ys => by
    show (PyData.eqv (toD x).py (toD y).py && PyData.eqvAll (pyAll (xs.map toD)) (pyAll (ys.map toD))) = _
    rw [DatOf.eqv, all_eqv xs ys, ← Bool.decide_and]
    exact decide_eq_decide.mpr ⟨fun ⟨a, b⟩ => by rw [a, b], fun h => List.cons.inj h⟩
instance : DatOf (List α) := ⟨fun xs => .lst (xs.map toD), fun xs v B h => by obtain ⟨p, vs, rfl, h1, h2⟩ := h; exact .lst h1 (each_dats h2), all_lay, all_nod, DatOf.dep α + 1, fun xs => Nat.succ_le_succ (all_depth xs), all_eqv, fun _ => ⟨rfl, rfl⟩⟩
instance : DatOf (α × β) := ⟨fun x => .tup [toD x.1, toD x.2], fun x v B h => by
    obtain ⟨p, a, b, rfl, h1, h2, h3⟩ := h
    exact .tup h1 (.cons (DatOf.cast _ _ _ h2) (.cons (DatOf.cast _ _ _ h3) .nil)),
  fun x => by show ((toD x.1).py.canLay0 && ((toD x.2).py.canLay0 && true)) = true; rw [DatOf.lay, DatOf.lay] <;> rfl,
  fun x => by show ((toD x.1).py.hasDict || ((toD x.2).py.hasDict || false)) = false; rw [DatOf.nod, DatOf.nod] <;> rfl,
  max (DatOf.dep α) (DatOf.dep β) + 1, fun x => by
    show max (toD x.1).py.depth (max (toD x.2).py.depth 0) + 1 ≤ _
    have h1 := DatOf.depth x.1
    have h2 := DatOf.depth x.2
    omega, fun x y => by
    show (PyData.eqv (toD x.1).py (toD y.1).py && (PyData.eqv (toD x.2).py (toD y.2).py && true)) = _
    rw [DatOf.eqv, DatOf.eqv, Bool.and_true, ← Bool.decide_and]
    exact decide_eq_decide.mpr ⟨fun ⟨a, b⟩ => Prod.ext a b, fun h => by rw [h]; exact ⟨rfl, rfl⟩⟩, fun _ => ⟨rfl, rfl⟩⟩
end
section
variable {K : PySem.W.Frag} {G : Option Addr} {c c1 c2 c3 : Nat} {te ta tb : TE} {Γ : Ctx} {α β : Type} [Py α] [DecidableEq α] [DatOf α] [Py β]
theorem Ty.dat {x : α} (h : Ty G c te Γ (· = x)) : Ty G c te Γ (· = toD x) := h.cast fun v B q => DatOf.cast x v B q
/-- shape alone -/
structure Shp (d : Dat) : Prop where
  lay : d.py.canLay0 = true
  nod : d.py.hasDict = false
  depth : d.py.depth ≤ 60
theorem shp {x : α} (h : DatOf.dep α ≤ 60 := by decide) : Shp (toD x) := ⟨DatOf.lay x, DatOf.nod x, Nat.le_trans (DatOf.depth x) h⟩
theorem ty_eqS' {d e : Dat} (h : Ty G c1 ta Γ (· = d)) (h2 : Ty G c2 tb Γ (· = e)) (r : Shp d) (r' : Shp e) : Ty G (c1 + c2) (tOp (rEqD K) ta tb) Γ (· = PyData.eqv d.py e.py) :=
  ty_op h h2 fun x y v w B ex ey hv hw z B' H ee s Q q => by
    subst ex ey
    have sh : ∀ {d : Dat}, Shp d → SeqAt.shaped d.py = true := fun {d} r => by
      have := r.depth
      unfold SeqAt.shaped
      rw [r.lay, decide_eq_true (by omega)] <;> rfl
    exact ⟨_, _, DatV.dp (ee.trans s.ex) hv r.nod, DatV.dp (ee.trans s.ex) hw r'.nod, sh r, sh r', q _ _ z B' H rfl (.refl s) rfl⟩
end
/-! repr -/
/-- showable, each leaf short, so heavy -/
structure Rw (L W : Nat) (d : Dat) : Prop where
  show_ : d.py.showable = true
  short : d.py.leavesShort L = true
  wt : d.py.weight ≤ W
theorem rw_int {L k : Nat} {n : Int} (h : n.natAbs < 2 ^ k) (k0 : 0 < k) (hk : k ≤ 1900) (hL : k + 10 ≤ L) : Rw L k (.int n) := by
  have l2 : n.natAbs.log2 < k := by
    by_cases h0 : n.natAbs = 0
    · rw [h0]
      exact k0
    · exact (Nat.log2_lt h0).mpr h
  refine ⟨?_, ?_, ?_⟩
  · show decide (n.natAbs.log2 < 1920) = true
    exact decide_eq_true (by omega)
  · show decide ((PyData.shown (.int n)).length ≤ L) = true
    refine decide_eq_true ?_
    have e := int_text_length_le10 (k := k) k0 (Nat.lt_of_lt_of_le h (Nat.pow_le_pow_left (by decide) k))
    show (Str.ofString (toString n)).length ≤ L
    rw [PySem.ofString_length]
    omega
  · show (if n == 0 then 0 else n.natAbs.log2 + 1) ≤ k
    split <;> omega
theorem Rw.mono {L W W' : Nat} {d : Dat} (h : Rw L W d) (b : W ≤ W') : Rw L W' d := ⟨h.show_, h.short, Nat.le_trans h.wt b⟩
theorem rw_all {L W : Nat} : ∀ {ds : List Dat}, (∀ d ∈ ds, Rw L W d) → PyData.showableAll (pyAll ds) = true ∧ PyData.leavesShortAll L (pyAll ds) = true ∧ PyData.weightAll (pyAll ds) ≤ (W + 1) * ds.length
  | [], _ => ⟨rfl, rfl, Nat.zero_le _⟩
  | d :: ds, h => by
    obtain ⟨a, c, g⟩ := rw_all (ds := ds) fun x hx => h x (List.mem_cons_of_mem _ hx)
    have r := h d List.mem_cons_self
    refine ⟨?_, ?_, ?_⟩
    · show (d.py.showable && PyData.showableAll (pyAll ds)) = true
      rw [r.show_, a] <;> rfl
    · show (d.py.leavesShort L && PyData.leavesShortAll L (pyAll ds)) = true
      rw [r.short, c] <;> rfl
    · show d.py.weight + 1 + PyData.weightAll (pyAll ds) ≤ (W + 1) * (ds.length + 1)
      have := r.wt
      rw [Nat.mul_add, Nat.mul_one]
      omega
theorem rw_lst {L W m : Nat} {ds : List Dat} (h : ∀ d ∈ ds, Rw L W d) (hm : ds.length ≤ m) : Rw L ((W + 1) * m) (.lst ds) := by
  obtain ⟨a, c, g⟩ := rw_all h
  exact ⟨a, c, Nat.le_trans g (Nat.mul_le_mul_left _ hm)⟩
theorem rw_tup {L W m : Nat} {ds : List Dat} (h : ∀ d ∈ ds, Rw L W d) (hm : ds.length ≤ m) : Rw L ((W + 1) * m) (.tup ds) := by
  obtain ⟨a, c, g⟩ := rw_all h
  exact ⟨a, c, Nat.le_trans g (Nat.mul_le_mul_left _ hm)⟩
/-! ### calls with drawn arguments -/
section
variable {K : PySem.W.Frag} {G : Option Addr} {c c1 c2 c3 : Nat} {te ta tb : TE} {tr : TA} {tt : TT} {Γ : Ctx} {α β γ ι π : Type} [Py α] [Py β] [Py γ] {A : α → Prop} {A1 : β → Prop}
/-! a test's two ways -/
theorem ty_ixD {xs : List α} {i : Int} (d : α) (ha : Ty G c1 ta Γ (· = xs)) (hb : Ty G c2 tb Γ (· = i)) (h : 0 ≤ i ∧ i < xs.length) : Ty G (c1 + c2) (tOp (rIxL K) ta tb) Γ (· = xs.getD i.toNat d) :=
  ty_ix ha hb (by
    have lt : i.toNat < xs.length := by omega
    unfold atI ixN
    rw [if_pos h.1, if_pos h.2]
    show xs[i.toNat]? = _
    rw [List.getElem?_eq_getElem lt, List.getD_eq_getElem?_getD, List.getElem?_eq_getElem lt] <;> rfl)
end
/-! ### a growing list that is read: the answer does not hang on the heap -/
/-! ### objects -/
/-- what the fields of an object of a class hold -/
def ObjP (C : Addr) (fp : List (Str × VP)) : VP := fun v B => ∃ a dx fs, v = .ref a ∧ B a = some (.ins C dx fs) ∧ ∀ f P, fp.lookup f = some P → Stays P ∧ ∃ u, fs.lookup f = some u ∧ P u B
theorem ObjP.stays {C : Addr} {fp : List (Str × VP)} : Stays (ObjP C fp) := fun v B B' e ⟨a, dx, fs, h1, h2, h3⟩ => ⟨a, dx, fs, h1, e _ _ h2, fun f P h => by
  obtain ⟨st, u, l, p⟩ := h3 f P h
  exact ⟨st, u, l, st _ _ _ e p⟩⟩
/-- an object told by a value -/
class Obj' (α : Type) where
  cls : α → Addr
  fields : α → List (Str × VP)
instance (priority := 10) {α : Type} [Obj' α] : Py α := ⟨fun x v B => ObjP (Obj'.cls x) (Obj'.fields x) v B, fun _ _ _ _ e h => ObjP.stays _ _ _ e h⟩
end AP
set_option maxHeartbeats 4000000
/-! More rules: comprehensions over pairs, least items, where an item stands, targets of more names. -/
namespace AP
open PySem PySem.Spec PyProof.Rows L2 Evl
def rg1 (n : Int) : List Int := (List.range n.toNat).map fun i : Nat => (i : Int)
section
variable {K : PySem.W.Frag} {G : Option Addr} {c c0 c1 c2 c3 ct cb : Nat} {te ta tb tc : TE} {tt : TT} {tr : TA} {Γ : AP.Ctx} {α β γ δ ε : Type} [Py α] [Py β] [Py γ] [Py δ] {g : TG}
theorem filter_yes (es : List ε) (f : ε → β) : (es.filter fun _ => true).map f = es.map f := by rw [List.filter_eq_self.mpr fun _ _ => rfl]
/-- range(n) -/
theorem ty_lc1 {n : Int} {p : Int → Bool} {f : Int → β} {j : Nat} {vs : List Nat} (h : Ty G c ta Γ (· = n)) (hn : n ≤ 40000) (hj : j ∈ vs)
    (ht : ∀ x, 0 ≤ x → x < n → TyT G 0 tt ((wipeC Γ vs).set j (some (Py.is x))) (· = p x)) (he : ∀ x, 0 ≤ x → x < n → p x = true → Ty G 0 te ((wipeC Γ vs).set j (some (Py.is x))) (· = f x)) (h0 : -(2 ^ 62) ≤ n := by omega) :
    Ty G (c + 0) (tLc (iRng1 (tCons ta tNil)) (gName j) tt te vs) Γ (· = ((rg1 n).filter p).map f) := ty_lcR1 (ta_cons h ta_nil) ⟨h0, by omega⟩ (by omega) hj ht he
theorem ty_lc1M {n : Int} {f : Int → β} {j : Nat} {vs : List Nat} (h : Ty G c ta Γ (· = n)) (hn : n ≤ 40000) (hj : j ∈ vs)
    (he : ∀ x, 0 ≤ x → x < n → Ty G 0 te ((wipeC Γ vs).set j (some (Py.is x))) (· = f x)) (h0 : -(2 ^ 62) ≤ n := by omega) :
    Ty G (c + 0) (tLc (iRng1 (tCons ta tNil)) (gName j) tYes te vs) Γ (· = (rg1 n).map f) := (ty_lc1 (p := fun _ => true) h hn hj (fun _ _ _ => tt_yes) (fun x a b _ => he x a b) h0).to (filter_yes _ _)
/-! ### the least, the greatest -/
def minI : List Int → Int
  | [] => 0
  | [x] => x
  | x :: y :: r => min x (minI (y :: r))
theorem minI_ok : ∀ {l : List Int}, l ≠ [] → minI l ∈ l ∧ ∀ y ∈ l, minI l ≤ y
  | [], h => absurd rfl h
  | [x], _ => ⟨List.mem_singleton_self x, fun y hy => by rw [List.mem_singleton.mp hy]; exact Int.le_refl _⟩
  | x :: y :: r, _ => by
    obtain ⟨h1, h2⟩ := minI_ok (l := y :: r) (by simp)
    have e : minI (x :: y :: r) = min x (minI (y :: r)) := rfl
    rw [e]
    refine ⟨?_, fun z hz => ?_⟩
    · by_cases h : x ≤ minI (y :: r)
      · rw [Int.min_eq_left h]; exact List.mem_cons_self
      · rw [Int.min_eq_right (by omega)]; exact List.mem_cons_of_mem _ h1
    · rcases List.mem_cons.mp hz with q | q
      · rw [q]; exact Int.min_le_left _ _
      · exact Int.le_trans (Int.min_le_right _ _) (h2 z q)
end
/-! ### statements -/
section
variable {K : PySem.W.Frag} {G : Option Addr} {c c0 c1 c2 c3 : Nat} {te ta tb tc : TE} {tt : TT} {Γ : AP.Ctx} {α β γ : Type} [Py α] [Py β] [Py γ] {A : α → Prop} {A1 : β → Prop} {A2 : γ → Prop} {B B' H B0 H0 : Hp} {σ : L2.St} {z z0 : Int} {D : Ends} {tz : TS}
/-- a, b, c = e1, e2, e3 with plain names -/
theorem q_par3 {i j l : Nat} (s0 : At G z0 B0 H0) (n : Nx G c0 z0 B0 H0 z B H) (en : Slo B σ Γ) (h1 : Ty G c1 ta Γ A) (h2 : Ty G c2 tb Γ A1) (h3 : Ty G c3 tc Γ A2) (hz : z0 + (c0 + (c1 + c2 + c3)) ≤ 2 ^ 50)
    (k : ∀ x y u z' B' H' σ', A x → A1 y → A2 u → Nx G (c1 + c2 + c3) z B H z' B' H' → Nx G (c0 + (c1 + c2 + c3)) z0 B0 H0 z' B' H' → Slo B' σ' (((Γ.set i (some (Py.is x))).set j (some (Py.is y))).set l (some (Py.is u))) → D.nx σ' H') :
    tPar3 i j l (tCons ta (tCons tb (tCons tc tNil))) D σ H := by
  refine h1 z B σ H en n.at_ (by have := n.hi; omega) _ fun x v z1 B1 H1 ax n1 hv => ?_
  refine h2 z1 B1 σ H1 (en.up n1.up) n1.at_ (by have := n.hi; have := n1.hi; omega) _ fun y w z2 B2 H2 ay n2 hw => ?_
  have nn := n1.trans n.at_ n2
  refine h3 z2 B2 σ H2 (en.up nn.up) n2.at_ (by have := n.hi; have := nn.hi; omega) _ fun u m z3 B3 H3 au n3 hm => ?_
  have nm := nn.trans n.at_ n3
  exact ⟨v, w, m, rfl, k x y u z3 B3 H3 _ ax ay au nm (n.trans s0 nm) ((((en.up nm.up).put (Py.st _ _ _ _ (n2.up.trans n3.up) hv)).put (Py.st _ _ _ _ n3.up hw)).put hm)⟩
theorem q_par3S {i j l : Nat} (s0 : At G z0 B0 H0) (n : Nx G c0 z0 B0 H0 z B H) (en : Slo B σ Γ) (h1 : Ty G c1 ta Γ A) (h2 : Ty G c2 tb Γ A1) (h3 : Ty G c3 tc Γ A2) (hz : z0 + (c0 + (c1 + c2 + c3)) ≤ 2 ^ 50)
    (k : ∀ x y u z' B' H' σ', A x → A1 y → A2 u → Nx G (c1 + c2 + c3) z B H z' B' H' → Nx G (c0 + (c1 + c2 + c3)) z0 B0 H0 z' B' H' → Slo B' σ' (((Γ.set i (some (Py.is x))).set j (some (Py.is y))).set l (some (Py.is u))) → tz D σ' H') :
    tSeq (tPar3 i j l (tCons ta (tCons tb (tCons tc tNil)))) tz D σ H := q_par3 (D := { D with nx := tz D }) s0 n en h1 h2 h3 hz k
end
end AP
set_option maxHeartbeats 4000000
/-! Statements as the generator writes them. -/
namespace AP
open PySem PySem.Spec PyProof.Rows L2 Evl
section
variable {K : PySem.W.Frag} {G : Option Addr} {c c0 c1 c2 c3 : Nat} {te ta tb tc tl : TE} {tt : TT} {t t1 t2 : TS} {tr : TA} {Γ : AP.Ctx} {α β γ : Type} [Py α] [Py β] [Py γ] {A : α → Prop} {B B' H B0 H0 : Hp} {σ : L2.St} {z z0 : Int} {D : Ends} {tz : TS} {b : Bool}
theorem q_ite (s0 : At G z0 B0 H0) (n : Nx G c0 z0 B0 H0 z B H) (en : Slo B σ Γ) (h : TyT G c tt Γ (· = b)) (hz : z0 + (c0 + c) ≤ 2 ^ 50)
    (k1 : b = true → ∀ z' B' H', Nx G c z B H z' B' H' → Nx G (c0 + c) z0 B0 H0 z' B' H' → Slo B' σ Γ → t1 D σ H')
    (k2 : b = false → ∀ z' B' H', Nx G c z B H z' B' H' → Nx G (c0 + c) z0 B0 H0 z' B' H' → Slo B' σ Γ → t2 D σ H') : tIfS tt t1 t2 D σ H :=
  q_if s0 n en h hz (fun e => k1 e.symm) (fun e => k2 e.symm)
theorem q_iteS (s0 : At G z0 B0 H0) (n : Nx G c0 z0 B0 H0 z B H) (en : Slo B σ Γ) (h : TyT G c tt Γ (· = b)) (hz : z0 + (c0 + c) ≤ 2 ^ 50)
    (k1 : b = true → ∀ z' B' H', Nx G c z B H z' B' H' → Nx G (c0 + c) z0 B0 H0 z' B' H' → Slo B' σ Γ → t1 { D with nx := tz D } σ H')
    (k2 : b = false → ∀ z' B' H', Nx G c z B H z' B' H' → Nx G (c0 + c) z0 B0 H0 z' B' H' → Slo B' σ Γ → t2 { D with nx := tz D } σ H') : tSeq (tIfS tt t1 t2) tz D σ H :=
  q_ite (D := { D with nx := tz D }) s0 n en h hz k1 k2
/-- append, last in a block -/
theorem q_appE (s0 : At G z0 B0 H0) (n : Nx G c0 z0 B0 H0 z B H) (en : Slo B σ Γ) {k : Nat} {l : Addr} {us : List V} (hk : Γ[k]? = some (some (RefP l))) (hl : H l = some (.lst us)) (nl : B l = none) (n0 : H0 l = none) (small : us.length < 100000)
    (h : Ty G c te Γ A) (hz : z0 + (c0 + c) ≤ 2 ^ 50)
    (kk : ∀ x v z' B' H', A x → Py.is x v B' → Ex B B' → Nx G (c0 + c) z0 B0 H0 z' B' H' → Slo B' σ Γ → H' l = some (.lst (us ++ [v])) → B' l = none → (∀ a o, G ≠ some a → a ≠ l → H a = some o → H' a = some o) → (∀ a o, B' a = some o → B a = some o ∨ NewT H a o) → D.nx σ H') :
    tDrop (tBM K "list" rAppend (tVar k) (tCons te tNil)) D σ H :=
  q_appS (tz := fun _ => D.nx) (D := D) s0 n en hk hl nl n0 small h hz kk
theorem keep2 {B H : Hp} {l : Addr} {us : List V} (nl : B l = none) (hl : H l = some (.lst us)) (h : ∀ a o, B' a = some o → B a = some o ∨ NewT H a o) : B' l = none := by
  cases e : B' l with
  | none => rfl
  | some u =>
    rcases h l u e with h | h
    · rw [nl] at h; cases h
    · exact (h.no hl).elim
theorem q_forX {wi : TI} {g : TG} {js : List Nat} {cb : Nat} {An : Nat → Prop} {F : Nat → AP.Ctx → AP.Ctx} (s0 : At G z0 B0 H0) (n : Nx G c0 z0 B0 H0 z B H) (en : Slo B σ Γ) (h : TyI G c wi g Γ js An F) (hz : z0 + (c0 + c) ≤ 2 ^ 50)
    (Inv : Nat → AP.Ctx → Hp → Hp → Prop)
    (h0 : ∀ z' B' H', Nx G c z B H z' B' H' → Slo B' σ Γ → Inv 0 Γ B' H')
    (up : ∀ i Γ B H H', Inv i Γ B H → Ex H H' → Inv i Γ B H')
    (hs : ∀ m, An m → ∀ Bs i Γ' z' B' H' σ', i < m → Inv i Γ' B' H' → Ex Bs B' → Nx G (c0 + c + i * cb) z0 B0 H0 z' B' H' → Slo B' σ' (F i Γ') →
      t { D with nx := Lw G z0 B0 H0 Bs (c0 + c) cb Inv (i + 1), ct := Lw G z0 B0 H0 Bs (c0 + c) cb Inv (i + 1), bk := D.nx } σ' H')
    (hd : ∀ m, An m → ∀ Γ' z' B' H' σ', Inv m Γ' B' H' → Ex B B' → Nx G (c0 + c + m * cb) z0 B0 H0 z' B' H' → Slo B' σ' Γ' → D.nx σ' H') : tFor wi g t D σ H := by
  refine h z B σ H en n.at_ (by have := n.hi; omega) _ fun J m z1 B1 H1 am n1 src => ?_
  refine ⟨fun i k σ H => k + i = m ∧ Lw G z0 B0 H0 B1 (c0 + c) cb Inv i σ H, ⟨m, by omega, Γ, z1, B1, h0 z1 B1 H1 n1 (en.up n1.up), Ex.refl _, (n.trans s0 n1).le (by omega), en.up n1.up⟩, ?_⟩
  rintro i k σ2 H2 ⟨e, Γ2, z2, B2, i2, x2, n2, en2⟩
  rcases Nat.lt_or_ge i m with lt | ge
  · refine .inr ⟨src.go i lt H2 (x2.trans n2.at_.ex), Lw G z0 B0 H0 B1 (c0 + c) cb Inv (i + 1), fun σ' H' p => ⟨k - 1, by omega, by omega, p⟩, fun x H3 y => ?_⟩
    obtain ⟨e3, fin⟩ := src.yld i lt x H2 H3 (x2.trans n2.at_.ex) y
    refine fin σ2 Γ2 B2 en2 x2 n2.at_.ex _ fun σ' en3 _ => ?_
    exact hs m am B1 i Γ2 z2 B2 H3 σ' lt (up _ _ _ _ _ i2 e3) x2 ((n2.trans s0 (Nx.more n2.at_ e3)).le (by omega)) en3
  · cases (show i = m by omega)
    exact .inl ⟨src.stop H2 (x2.trans n2.at_.ex), hd m am Γ2 z2 B2 H2 σ2 i2 (n1.up.trans x2) n2 en2⟩
theorem q_for1 {j cb : Nat} {m : Int} (s0 : At G z0 B0 H0) (n : Nx G c0 z0 B0 H0 z B H) (en : Slo B σ Γ) (h : Ty G c te Γ (· = m)) (hm : -(2 ^ 62) ≤ m ∧ m < 2 ^ 62) (hz : z0 + (c0 + c) ≤ 2 ^ 50)
    (Inv : Nat → AP.Ctx → Hp → Hp → Prop) (h0 : ∀ z' B' H', Nx G c z B H z' B' H' → Slo B' σ Γ → Inv 0 Γ B' H') (up : ∀ i Γ B H H', Inv i Γ B H → Ex H H' → Inv i Γ B H')
    (hs : ∀ Bs (i : Nat) Γ' z' B' H' σ', (i : Int) < m → Inv i Γ' B' H' → Ex Bs B' → Nx G (c0 + c + i * cb) z0 B0 H0 z' B' H' → Slo B' σ' (Γ'.set j (some (Py.is (i : Int)))) →
      t { D with nx := Lw G z0 B0 H0 Bs (c0 + c) cb Inv (i + 1), ct := Lw G z0 B0 H0 Bs (c0 + c) cb Inv (i + 1), bk := D.nx } σ' H')
    (hd : ∀ Γ' z' B' H' σ', Inv m.toNat Γ' B' H' → Ex B B' → Nx G (c0 + c + m.toNat * cb) z0 B0 H0 z' B' H' → Slo B' σ' Γ' → D.nx σ' H') : tFor (iRng1 (tCons te tNil)) (gName j) t D σ H :=
  q_forX s0 n en (ti_rng1 (ta_cons h ta_nil) hm) hz Inv h0 up (fun m' em Bs i Γ' z' B' H' σ' hi inv eb n en => hs Bs i Γ' z' B' H' σ' (by subst em; omega) inv eb n en) fun m' em Γ' z' B' H' σ' inv eb2 n en => by
    subst em
    exact hd Γ' z' B' H' σ' inv eb2 n en
theorem q_for1S {j cb : Nat} {m : Int} (s0 : At G z0 B0 H0) (n : Nx G c0 z0 B0 H0 z B H) (en : Slo B σ Γ) (h : Ty G c te Γ (· = m)) (hm : -(2 ^ 62) ≤ m ∧ m < 2 ^ 62) (hz : z0 + (c0 + c) ≤ 2 ^ 50)
    (Inv : Nat → AP.Ctx → Hp → Hp → Prop) (h0 : ∀ z' B' H', Nx G c z B H z' B' H' → Slo B' σ Γ → Inv 0 Γ B' H') (up : ∀ i Γ B H H', Inv i Γ B H → Ex H H' → Inv i Γ B H')
    (hs : ∀ Bs (i : Nat) Γ' z' B' H' σ', (i : Int) < m → Inv i Γ' B' H' → Ex Bs B' → Nx G (c0 + c + i * cb) z0 B0 H0 z' B' H' → Slo B' σ' (Γ'.set j (some (Py.is (i : Int)))) →
      t { D with nx := Lw G z0 B0 H0 Bs (c0 + c) cb Inv (i + 1), ct := Lw G z0 B0 H0 Bs (c0 + c) cb Inv (i + 1), bk := tz D } σ' H')
    (hd : ∀ Γ' z' B' H' σ', Inv m.toNat Γ' B' H' → Ex B B' → Nx G (c0 + c + m.toNat * cb) z0 B0 H0 z' B' H' → Slo B' σ' Γ' → tz D σ' H') : tSeq (tFor (iRng1 (tCons te tNil)) (gName j) t) tz D σ H := q_for1 (D := { D with nx := tz D }) s0 n en h hm hz Inv h0 up hs hd
theorem q_forL {j cb : Nat} {xs : List β} (s0 : At G z0 B0 H0) (n : Nx G c0 z0 B0 H0 z B H) (en : Slo B σ Γ) (h : Ty G c te Γ (· = xs)) (hz : z0 + (c0 + c) ≤ 2 ^ 50)
    (Inv : Nat → AP.Ctx → Hp → Hp → Prop) (h0 : ∀ z' B' H', Nx G c z B H z' B' H' → Slo B' σ Γ → Inv 0 Γ B' H') (up : ∀ i Γ B H H', Inv i Γ B H → Ex H H' → Inv i Γ B H')
    (hs : ∀ Bs (i : Nat) x Γ' z' B' H' σ', xs[i]? = some x → Inv i Γ' B' H' → Ex Bs B' → Nx G (c0 + c + i * cb) z0 B0 H0 z' B' H' → Slo B' σ' (Γ'.set j (some (Py.is x))) →
      t { D with nx := Lw G z0 B0 H0 Bs (c0 + c) cb Inv (i + 1), ct := Lw G z0 B0 H0 Bs (c0 + c) cb Inv (i + 1), bk := D.nx } σ' H')
    (hd : ∀ Γ' z' B' H' σ', Inv xs.length Γ' B' H' → Ex B B' → Nx G (c0 + c + xs.length * cb) z0 B0 H0 z' B' H' → Slo B' σ' Γ' → D.nx σ' H') : tFor (iList K te) (gName j) t D σ H :=
  q_forX s0 n en (ti_list h) hz Inv h0 up (fun m' em Bs i Γ' z' B' H' σ' hi inv eb n en => by
    subst em
    have e := List.getElem?_eq_getElem hi
    have en : Slo B' σ' (Γ'.set j (some (itm xs i))) := en
    rw [itm_eq e] at en
    exact hs Bs i _ Γ' z' B' H' σ' e inv eb n en) fun m' em Γ' z' B' H' σ' inv eb2 n en => by
    subst em
    exact hd Γ' z' B' H' σ' inv eb2 n en
theorem q_forLS {j cb : Nat} {xs : List β} (s0 : At G z0 B0 H0) (n : Nx G c0 z0 B0 H0 z B H) (en : Slo B σ Γ) (h : Ty G c te Γ (· = xs)) (hz : z0 + (c0 + c) ≤ 2 ^ 50)
    (Inv : Nat → AP.Ctx → Hp → Hp → Prop) (h0 : ∀ z' B' H', Nx G c z B H z' B' H' → Slo B' σ Γ → Inv 0 Γ B' H') (up : ∀ i Γ B H H', Inv i Γ B H → Ex H H' → Inv i Γ B H')
    (hs : ∀ Bs (i : Nat) x Γ' z' B' H' σ', xs[i]? = some x → Inv i Γ' B' H' → Ex Bs B' → Nx G (c0 + c + i * cb) z0 B0 H0 z' B' H' → Slo B' σ' (Γ'.set j (some (Py.is x))) →
      t { D with nx := Lw G z0 B0 H0 Bs (c0 + c) cb Inv (i + 1), ct := Lw G z0 B0 H0 Bs (c0 + c) cb Inv (i + 1), bk := tz D } σ' H')
    (hd : ∀ Γ' z' B' H' σ', Inv xs.length Γ' B' H' → Ex B B' → Nx G (c0 + c + xs.length * cb) z0 B0 H0 z' B' H' → Slo B' σ' Γ' → tz D σ' H') : tSeq (tFor (iList K te) (gName j) t) tz D σ H := q_forL (D := { D with nx := tz D }) s0 n en h hz Inv h0 up hs hd
theorem q_forZ {j l cb : Nat} {xs : List β} {ys : List γ} (s0 : At G z0 B0 H0) (n : Nx G c0 z0 B0 H0 z B H) (en : Slo B σ Γ) (h : Ty G c1 ta Γ (· = xs)) (h' : Ty G c2 tb Γ (· = ys)) (hz : z0 + (c0 + (c1 + (c2 + 0))) ≤ 2 ^ 50)
    (Inv : Nat → AP.Ctx → Hp → Hp → Prop) (h0 : ∀ z' B' H', Nx G (c1 + (c2 + 0)) z B H z' B' H' → Slo B' σ Γ → Inv 0 Γ B' H') (up : ∀ i Γ B H H', Inv i Γ B H → Ex H H' → Inv i Γ B H')
    (hs : ∀ Bs (i : Nat) x y Γ' z' B' H' σ', xs[i]? = some x → ys[i]? = some y → Inv i Γ' B' H' → Ex Bs B' → Nx G (c0 + (c1 + (c2 + 0)) + i * cb) z0 B0 H0 z' B' H' → Slo B' σ' ((Γ'.set j (some (Py.is x))).set l (some (Py.is y))) →
      t { D with nx := Lw G z0 B0 H0 Bs (c0 + (c1 + (c2 + 0))) cb Inv (i + 1), ct := Lw G z0 B0 H0 Bs (c0 + (c1 + (c2 + 0))) cb Inv (i + 1), bk := D.nx } σ' H')
    (hd : ∀ Γ' z' B' H' σ', Inv (min xs.length ys.length) Γ' B' H' → Ex B B' → Nx G (c0 + (c1 + (c2 + 0)) + (min xs.length ys.length) * cb) z0 B0 H0 z' B' H' → Slo B' σ' Γ' → D.nx σ' H') : tFor (iZip K (tCons ta (tCons tb tNil))) (gTup K 2 (gCons (gName j) (gCons (gName l) gNil))) t D σ H :=
  q_forX s0 n en (ti_zip (ta_cons h (ta_cons h' ta_nil))) hz Inv h0 up (fun m' em Bs i Γ' z' B' H' σ' hi inv eb n en => by
    subst em
    have e := List.getElem?_eq_getElem (show i < xs.length by omega)
    have e' := List.getElem?_eq_getElem (show i < ys.length by omega)
    have en : Slo B' σ' ((Γ'.set j (some (itm xs i))).set l (some (itm ys i))) := en
    rw [itm_eq e, itm_eq e'] at en
    exact hs Bs i _ _ Γ' z' B' H' σ' e e' inv eb n en) fun m' em Γ' z' B' H' σ' inv eb2 n en => by
    subst em
    exact hd Γ' z' B' H' σ' inv eb2 n en
theorem q_forZS {j l cb : Nat} {xs : List β} {ys : List γ} (s0 : At G z0 B0 H0) (n : Nx G c0 z0 B0 H0 z B H) (en : Slo B σ Γ) (h : Ty G c1 ta Γ (· = xs)) (h' : Ty G c2 tb Γ (· = ys)) (hz : z0 + (c0 + (c1 + (c2 + 0))) ≤ 2 ^ 50)
    (Inv : Nat → AP.Ctx → Hp → Hp → Prop) (h0 : ∀ z' B' H', Nx G (c1 + (c2 + 0)) z B H z' B' H' → Slo B' σ Γ → Inv 0 Γ B' H') (up : ∀ i Γ B H H', Inv i Γ B H → Ex H H' → Inv i Γ B H')
    (hs : ∀ Bs (i : Nat) x y Γ' z' B' H' σ', xs[i]? = some x → ys[i]? = some y → Inv i Γ' B' H' → Ex Bs B' → Nx G (c0 + (c1 + (c2 + 0)) + i * cb) z0 B0 H0 z' B' H' → Slo B' σ' ((Γ'.set j (some (Py.is x))).set l (some (Py.is y))) →
      t { D with nx := Lw G z0 B0 H0 Bs (c0 + (c1 + (c2 + 0))) cb Inv (i + 1), ct := Lw G z0 B0 H0 Bs (c0 + (c1 + (c2 + 0))) cb Inv (i + 1), bk := tz D } σ' H')
    (hd : ∀ Γ' z' B' H' σ', Inv (min xs.length ys.length) Γ' B' H' → Ex B B' → Nx G (c0 + (c1 + (c2 + 0)) + (min xs.length ys.length) * cb) z0 B0 H0 z' B' H' → Slo B' σ' Γ' → tz D σ' H') : tSeq (tFor (iZip K (tCons ta (tCons tb tNil))) (gTup K 2 (gCons (gName j) (gCons (gName l) gNil))) t) tz D σ H := q_forZ (D := { D with nx := tz D }) s0 n en h h' hz Inv h0 up hs hd
/-- drawn items -/
theorem ty_lc1N {M cb : Nat} {n : Int} {j : Nat} {vs : List Nat} (h : Ty G c ta Γ (· = n)) (hn : n ≤ M ∧ M ≤ 40000) (hj : j ∈ vs)
    (he : ∀ x, 0 ≤ x → x < n → Ty G cb te ((wipeC Γ vs).set j (some (Py.is x))) A) (h0 : -(2 ^ 62) ≤ n := by omega) :
    Ty G (c + 0 + M * (0 + cb)) (tLc (iRng1 (tCons ta tNil)) (gName j) tYes te vs) Γ (fun l : List α => l.length = n.toNat ∧ ∀ y ∈ l, A y) :=
  (ty_lc (T := fun _ b => b = true) (A := fun _ y => A y) (M := M) (ti_rng1 (ta_cons h ta_nil) ⟨h0, by omega⟩) (fun m e => by omega) hn.2 (by simpa using hj) (fun m em i hi => tt_yes) fun m em i hi hp => he _ (by omega) (by subst em; omega)).imp fun ys ⟨m, em, sel⟩ => by
    subst em
    exact ⟨sel_len (fun _ _ e => e) sel, sel_all (P := A) (fun _ _ a => a) sel⟩
end
theorem pi_listA {X : Cx} {K : PySem.W.Frag} {tg l : Expr} {tl : TE} (hl : PE X l tl) (hK : X.K = K := by rfl) : PI X tg l (iList K tl) := by
  subst hK
  exact pi_list hl
theorem pi_zipA' {X : Cx} {K : PySem.W.Frag} {e e2 : Expr} {ta : TA} {p pos tpos : Pos} {elts : List Expr} {kk : Nat} (hg : Gl X "zip") (hm : X.mg "zip" = none) (ha : PA X [e, e2] ta) (hK : X.K = K := by rfl)
    (hs : starEach [e, e2] X.env = (false, eval e X.env) :: starEach [e2] X.env := by rfl) (hpl : (backTo pos (starEach [e2] X.env)).any (·.1) = false := by rfl) :
    PI X (.Tuple elts kk tpos) (.Call (.Name "zip" p) [e, e2] [] pos) (iZip K ta) := by
  subst hK
  exact pi_zip hg hm ha hs hpl
end AP
set_option maxHeartbeats 4000000
/-! Objects made by a class: what __init__ promises, what the class gives. -/
namespace AP
open PySem PySem.Spec PyProof.Rows L2 Evl
end AP
set_option maxHeartbeats 4000000
/-! The numbers of places, by halves. -/
namespace AP
/-- a run that always takes one of the least -/
inductive Gr : KC → KC → Prop
  | nil : Gr [] []
  | cons {kvs l : KC} {x : Int × Int} : x ∈ kvs → (∀ y ∈ kvs, x.2 ≤ y.2) → Gr (behind kvs x.1) l → Gr kvs (x :: l)
theorem orun_gr : ∀ (n : Nat) (kvs : KC), kvs.length = n → (kvs.map (·.1)).Nodup → Gr kvs (orun n kvs)
  | 0, [], _, _ => .nil
  | n + 1, kvs, hl, nd => by
    have ne : kvs ≠ [] := fun e => by rw [e] at hl; cases hl
    obtain ⟨x, h1, h2, h3, _⟩ := pick_some ne
    have bl := behind_len nd (List.mem_map.mpr ⟨x, h2, rfl⟩)
    rw [← hl, orun_cons nd h1 h2]
    exact .cons h2 h3 (orun_gr _ _ rfl (behind_nodup nd))
theorem Gr.len {kvs l : KC} (h : Gr kvs l) (nd : (kvs.map (·.1)).Nodup) : l.length = kvs.length := by
  induction h with
  | nil => rfl
  | cons h1 h2 _ ih =>
    rw [List.length_cons, ih (behind_nodup nd)]
    exact behind_len nd (List.mem_map.mpr ⟨_, h1, rfl⟩)
theorem behind_mem {kvs : KC} {t : Int} {y : Int × Int} (h : y ∈ behind kvs t) : ∃ z ∈ kvs, y.1 = z.1 ∧ z.2 ≤ y.2 := by
  obtain ⟨z, hz, rfl⟩ := List.mem_map.mp h
  exact ⟨z, (List.mem_filter.mp hz).1, rfl, by have := twos_nonneg (z.1 - t); show z.2 ≤ z.2 + twos (z.1 - t); omega⟩
theorem Gr.ge {kvs l : KC} (h : Gr kvs l) : ∀ {m : Int}, (∀ y ∈ kvs, m ≤ y.2) → ∀ y ∈ l, m ≤ y.2 := by
  induction h with
  | nil => intro m _ y hy; cases hy
  | cons h1 h2 _ ih =>
    intro m hm y hy
    rcases List.mem_cons.mp hy with rfl | hy
    · exact hm _ h1
    · refine ih (fun w hw => ?_) y hy
      obtain ⟨z, hz, _, le⟩ := behind_mem hw
      exact Int.le_trans (hm z hz) le
/-- the numbers never fall -/
theorem Gr.asc {kvs l : KC} (h : Gr kvs l) : (l.map (·.2)).Pairwise (· ≤ ·) := by
  induction h with
  | nil => exact .nil
  | cons h1 h2 h3 ih =>
    rw [List.map_cons]
    refine .cons (fun b hb => ?_) ih
    obtain ⟨y, hy, rfl⟩ := List.mem_map.mp hb
    refine h3.ge (fun w hw => ?_) y hy
    obtain ⟨z, hz, _, le⟩ := behind_mem hw
    exact Int.le_trans (h2 z hz) le
def up : Int → List Int → List Int
  | _, [] => []
  | t, x :: r => (x + t) :: up (t + 1) r
def zeros (ps : List Int) : KC := ps.map fun p => (p, 0)
theorem asc_unique : ∀ {l m : List Int}, l.Pairwise (· ≤ ·) → m.Pairwise (· ≤ ·) → l.Perm m → l = m
  | [], m, _, _, p => by rw [List.nil_perm.mp p]
  | a :: l, [], _, _, p => by cases List.perm_nil.mp p
  | a :: l, b :: m, h1, h2, p => by
    have h1' := List.pairwise_cons.mp h1
    have h2' := List.pairwise_cons.mp h2
    have ab : a = b := by
      have ha : a ∈ b :: m := p.mem_iff.mp List.mem_cons_self
      have hb : b ∈ a :: l := p.mem_iff.mpr List.mem_cons_self
      rcases List.mem_cons.mp ha with e | ha
      · exact e
      · rcases List.mem_cons.mp hb with e | hb
        · exact e.symm
        · have := h1'.1 b hb
          have := h2'.1 a ha
          omega
    subst ab
    rw [asc_unique h1'.2 h2'.2 ((List.perm_cons a).mp p)]
theorem zeros_keys (ps : List Int) : (zeros ps).map (·.1) = ps := by
  unfold zeros
  rw [List.map_map]
  exact List.map_id _
theorem run0_gr {ps : List Int} (nd : ps.Nodup) : Gr (zeros ps) (run0 ps) := by
  unfold run0
  have := orun_gr ps.length (zeros ps) (by unfold zeros; rw [List.length_map]) (by rw [zeros_keys]; exact nd)
  exact this
theorem numbers_len {ps : List Int} (nd : ps.Nodup) : (numbersOf ps).length = ps.length := by
  unfold numbersOf
  rw [List.length_map, (run0_gr nd).len (by rw [zeros_keys]; exact nd)]
  unfold zeros
  rw [List.length_map]
theorem numbers_asc {ps : List Int} (nd : ps.Nodup) : (numbersOf ps).Pairwise (· ≤ ·) := (run0_gr nd).asc
end AP
set_option maxHeartbeats 4000000
/-! The least twos of all differences: that of the first numbers. -/
namespace AP
/-- the twos of the differences to one -/
def twosTo (x : Int) : List Int → Int
  | [] => 0
  | y :: r => twos (x - y) + twosTo x r
theorem mod_two (x : Int) : x % 2 = 0 ∨ x % 2 = 1 := by omega
theorem twosTo_nonneg (x : Int) : ∀ l, 0 ≤ twosTo x l
  | [] => Int.le_refl _
  | y :: r => by have := twosTo_nonneg x r; have := twos_nonneg (x - y); unfold twosTo; omega
theorem twosTo_snoc (x a : Int) : ∀ l, twosTo x (l ++ [a]) = twosTo x l + twos (x - a)
  | [] => by simp [twosTo]
  | y :: r => by rw [List.cons_append]; unfold twosTo; rw [twosTo_snoc x a r]; omega
theorem up_len : ∀ (t : Int) (l : List Int), (up t l).length = l.length
  | _, [] => rfl
  | t, x :: r => by unfold up; rw [List.length_cons, List.length_cons, up_len]
theorem Gr.keys {kvs l : KC} (h : Gr kvs l) (nd : (kvs.map (·.1)).Nodup) : (l.map (·.1)).Perm (kvs.map (·.1)) := by
  induction h with
  | nil => exact .refl _
  | @cons kvs l x h1 h2 _ ih =>
    have i := ih (behind_nodup nd)
    rw [behind_keys] at i
    have hm : x.1 ∈ kvs.map (·.1) := List.mem_map.mpr ⟨x, h1, rfl⟩
    have e : (kvs.map (·.1)).filter (fun k => decide (k ≠ x.1)) = (kvs.map (·.1)).erase x.1 := by
      rw [List.Nodup.erase_eq_filter nd]
      refine List.filter_congr fun k _ => ?_
      by_cases h : k = x.1 <;> simp [h]
    rw [e] at i
    rw [List.map_cons]
    exact (i.cons _).trans (List.perm_cons_erase hm).symm
theorem order_perm {ps : List Int} (nd : ps.Nodup) : (orderOf ps).Perm ps := by
  have := (run0_gr nd).keys (by rw [zeros_keys]; exact nd)
  rwa [zeros_keys] at this
end AP
set_option maxHeartbeats 4000000
/-! Numbers with a place more or less; numbers of neighbours and of steps. -/
namespace AP
/-- one more, between the others -/
structure IL (A A' : List Int) : Prop where
  len : A'.length = A.length + 1
  lo : ∀ i, i < A.length → A'.getD i 0 ≤ A.getD i 0
  hi : ∀ i, i < A.length → A.getD i 0 ≤ A'.getD (i + 1) 0
theorem up_getD : ∀ (t : Int) (l : List Int) (i : Nat), i < l.length → (up t l).getD i 0 = l.getD i 0 + t + (i : Int)
  | _, [], _, h => by simp at h
  | t, x :: r, 0, _ => by simp [up]
  | t, x :: r, i + 1, h => by
    unfold up
    rw [List.getD_cons_succ, List.getD_cons_succ, up_getD (t + 1) r i (by simpa using h)]
    omega
theorem IL.up {A A' : List Int} (h : IL A A') : IL (up 0 A) (up 0 A') := by
  have len := h.len
  refine ⟨by rw [up_len, up_len, len], fun i hi => ?_, fun i hi => ?_⟩
  · rw [up_len] at hi
    rw [up_getD _ _ _ hi, up_getD _ _ _ (by omega)]
    have := h.lo i hi
    omega
  · rw [up_len] at hi
    rw [up_getD _ _ _ hi, up_getD _ _ _ (by omega)]
    have := h.hi i hi
    omega
/-! neighbours -/
def row (n : Nat) : List Int := (List.range n).map fun i : Nat => (i : Int)
/-! steps -/
theorem twos_odd_mul {o : Int} (ho : o % 2 = 1) : ∀ (k : Nat) (m : Int), m.natAbs ≤ k → twos (o * m) = twos m
  | 0, m, h => by rw [show m = 0 by omega, Int.mul_zero]
  | k + 1, m, h => by
    by_cases h0 : m = 0
    · rw [h0, Int.mul_zero]
    · rcases mod_two m with e | e
      · obtain ⟨q, rfl⟩ : ∃ q, m = 2 * q := ⟨m / 2, by omega⟩
        have ne : o * q ≠ 0 := fun z => by
          rcases Int.mul_eq_zero.mp z with z | z <;> omega
        have e2 : o * (2 * q) = 2 * (o * q) := by rw [← Int.mul_assoc, Int.mul_comm o 2, Int.mul_assoc]
        rw [e2, twos_even (n := 2 * (o * q)) (by omega) (by omega), twos_even (n := 2 * q) h0 (by omega), show 2 * (o * q) / 2 = o * q by omega, show 2 * q / 2 = q by omega, twos_odd_mul ho k q (by omega)]
      · rw [twos_odd e, twos_odd (by rw [Int.mul_emod, ho, e] <;> rfl)]
theorem twos_pow_mul : ∀ (t : Nat) {m : Int}, m ≠ 0 → twos (2 ^ t * m) = twos m + t
  | 0, m, _ => by simp
  | t + 1, m, h => by
    have e : (2 : Int) ^ (t + 1) * m = 2 * (2 ^ t * m) := by rw [Int.pow_succ, Int.mul_comm (2 ^ t) 2, Int.mul_assoc]
    have ne : (2 : Int) ^ t * m ≠ 0 := fun z => by
      rcases Int.mul_eq_zero.mp z with z | z
      · have := Int.pow_pos (n := (2 : Int)) (m := t) (by decide); omega
      · exact h z
    rw [e, twos_even (n := 2 * (2 ^ t * m)) (by omega) (by omega), show 2 * (2 ^ t * m) / 2 = 2 ^ t * m by omega, twos_pow_mul t h]
    omega
end AP
set_option maxHeartbeats 4000000
/-! Words of polynomials: rests by powers of 2, sums. -/
namespace AP
theorem twos_dvd : ∀ (k : Nat) {n : Int}, n ≠ 0 → n.natAbs ≤ k → ((2 : Int) ^ (twos n).toNat) ∣ n
  | 0, n, h, hk => absurd (by omega) h
  | k + 1, n, h, hk => by
    rcases mod_two n with e | e
    · have ih := twos_dvd k (n := n / 2) (by omega) (by omega)
      obtain ⟨q, hq⟩ := ih
      have t := twos_even h e
      have p := twos_nonneg (n / 2)
      refine ⟨q, ?_⟩
      rw [t, show (twos (n / 2) + 1).toNat = (twos (n / 2)).toNat + 1 by omega, Int.pow_succ, Int.mul_comm (2 ^ _) 2, Int.mul_assoc, ← hq]
      omega
    · rw [twos_odd e]
      exact ⟨n, by simp⟩
theorem pow_dvd_pow {a b : Nat} (h : a ≤ b) : ((2 : Int) ^ a) ∣ 2 ^ b := ⟨2 ^ (b - a), by rw [← Int.pow_add, Nat.add_sub_cancel' h]⟩
end AP
set_option maxHeartbeats 4000000
/-! The good order place by place; sums along it. -/
namespace AP
open PySem PySem.Spec PyProof.Rows L2 Evl
/-! ### picking by place -/
theorem idx_ne {x a : Int} {l : List Int} (h : x ≠ a) : (x :: l).idxOf a = l.idxOf a + 1 := by
  rw [List.idxOf_cons, (show (x == a) = false from beq_false_of_ne h)] <;> rfl
theorem minI_cons {x : Int} {l : List Int} (h : l ≠ []) : minI (x :: l) = min x (minI l) := by
  cases l with
  | nil => exact absurd rfl h
  | cons _ _ => rfl
theorem pick_at : ∀ {kvs : KC}, kvs ≠ [] → pickMin kvs = kvs[(kvs.map (·.2)).idxOf (minI (kvs.map (·.2)))]?
  | [], h => absurd rfl h
  | [x], _ => by
    show some x = [x][([x.2] : List Int).idxOf x.2]?
    rw [List.idxOf_cons_self] <;> rfl
  | x :: y :: r, _ => by
    have ne : (y :: r : KC).map (·.2) ≠ [] := by simp
    have ih := pick_at (kvs := y :: r) (by simp)
    obtain ⟨z, hz, zm, zl, _⟩ := pick_some (kvs := y :: r) (by simp)
    obtain ⟨m1, m2⟩ := minI_ok ne
    have ez : z.2 = minI ((y :: r : KC).map (·.2)) := by
      have a := m2 z.2 (List.mem_map.mpr ⟨z, zm, rfl⟩)
      obtain ⟨u, hu, eu⟩ := List.mem_map.mp m1
      have b := zl u hu
      omega
    have e : pickMin (x :: y :: r) = if x.2 ≤ z.2 then some x else some z := by
      show (match pickMin (y :: r) with | none => some x | some y => if x.2 ≤ y.2 then some x else some y) = _
      rw [hz]
    rw [e, List.map_cons, minI_cons ne]
    by_cases h : x.2 ≤ z.2
    · rw [if_pos h, Int.min_eq_left (by omega), List.idxOf_cons_self] <;> rfl
    · rw [if_neg h, Int.min_eq_right (by omega), idx_ne (by omega), List.getElem?_cons_succ, ← ih, hz]
/-! ### the law's own run -/
def kvL (left ord : List Int) : KC := left.map fun p => (p, twosTo p ord)
theorem kvL_keys (left ord : List Int) : (kvL left ord).map (·.1) = left := by unfold kvL; rw [List.map_map]; exact List.map_id _
theorem kvL_vals (left ord : List Int) : (kvL left ord).map (·.2) = left.map fun p => twosTo p ord := by unfold kvL; rw [List.map_map]; rfl
theorem kvL_behind (left ord : List Int) (t : Int) : behind (kvL left ord) t = kvL (left.filter fun x => decide (x ≠ t)) (ord ++ [t]) := by
  unfold behind kvL
  rw [List.filter_map, List.map_map]
  refine List.map_congr_left fun p _ => ?_
  show (p, twosTo p ord + twos (p - t)) = (p, twosTo p (ord ++ [t]))
  rw [twosTo_snoc]
structure GoodRun (ps ord nums left : List Int) : Prop where
  o : ord ++ (orun left.length (kvL left ord)).map (·.1) = orderOf ps
  n : nums ++ (orun left.length (kvL left ord)).map (·.2) = numbersOf ps
  nd : left.Nodup
  len : ord.length + left.length = ps.length
  same : nums.length = ord.length
  sub : ∀ x ∈ left, x ∈ ps
  subo : ∀ x ∈ ord, x ∈ ps
  apart : ∀ x ∈ left, x ∉ ord
theorem GoodRun.step {ps ord nums left : List Int} (h : GoodRun ps ord nums left) (ne : left ≠ []) :
    ∃ a, left[(left.map fun p => twosTo p ord).idxOf (minI (left.map fun p => twosTo p ord))]? = some a ∧
      GoodRun ps (ord ++ [a]) (nums ++ [(left.map fun p => twosTo p ord).getD ((left.map fun p => twosTo p ord).idxOf (minI (left.map fun p => twosTo p ord))) 0]) (left.filter fun x => decide (x ≠ a)) ∧ (left.filter fun x => decide (x ≠ a)).length + 1 = left.length := by
  have nk : kvL left ord ≠ [] := by unfold kvL; simpa using ne
  obtain ⟨x, hx, xm, _, _⟩ := pick_some nk
  have at_ := pick_at nk
  rw [hx, kvL_vals] at at_
  generalize hk : (left.map fun p => twosTo p ord).idxOf (minI (left.map fun p => twosTo p ord)) = k at at_ ⊢
  have e1 : left[k]? = some x.1 := by
    have : (kvL left ord)[k]? = some x := at_.symm
    have := congrArg (Option.map (·.1)) this
    rw [← List.getElem?_map, kvL_keys] at this
    exact this
  have e2 : (left.map fun p => twosTo p ord).getD k 0 = x.2 := by
    have : (kvL left ord)[k]? = some x := at_.symm
    have := congrArg (Option.map (·.2)) this
    rw [← List.getElem?_map, kvL_vals] at this
    rw [List.getD_eq_getElem?_getD, this] <;> rfl
  have ndk : ((kvL left ord).map (·.1)).Nodup := by rw [kvL_keys]; exact h.nd
  have xl : x.1 ∈ left := List.mem_of_getElem? e1
  have fl := filter_one h.nd xl
  have lenk : (kvL left ord).length = left.length := by unfold kvL; rw [List.length_map]
  have oc := orun_cons ndk hx xm
  rw [kvL_behind, lenk] at oc
  have lk : (kvL (left.filter fun y => decide (y ≠ x.1)) (ord ++ [x.1])).length = (left.filter fun y => decide (y ≠ x.1)).length := by unfold kvL; rw [List.length_map]
  rw [lk] at oc
  have ho := h.o
  have hn := h.n
  rw [oc, List.map_cons] at ho hn
  refine ⟨x.1, e1, ⟨?_, ?_, h.nd.filter _, ?_, ?_, fun y hy => h.sub y (List.mem_filter.mp hy).1, fun y hy => ?_, fun y hy hm => ?_⟩, fl⟩
  · rw [List.append_assoc]; exact ho
  · rw [e2, List.append_assoc]; exact hn
  · rw [List.length_append, List.length_singleton]
    have := h.len
    omega
  · rw [List.length_append, List.length_append, h.same] <;> rfl
  · rcases List.mem_append.mp hy with q | q
    · exact h.subo y q
    · rw [List.mem_singleton.mp q]; exact h.sub _ xl
  · obtain ⟨q1, q2⟩ := List.mem_filter.mp hy
    rcases List.mem_append.mp hm with q | q
    · exact h.apart y q1 q
    · have := of_decide_eq_true q2
      exact this (List.mem_singleton.mp q)
theorem GoodRun.start {a : Int} {r : List Int} (nd : (a :: r).Nodup) : GoodRun (a :: r) [a] [0] r := by
  have hz : ∀ y ∈ ((a :: r).map fun p => (p, (0 : Int))), y.2 = 0 := fun y hy => by obtain ⟨p, _, rfl⟩ := List.mem_map.mp hy; rfl
  have pk : pickMin ((a :: r).map fun p => (p, (0 : Int))) = some (a, 0) := by
    rw [List.map_cons]
    cases e : pickMin (r.map fun p => (p, (0 : Int))) with
    | none => show (match pickMin (r.map fun p => (p, (0 : Int))) with | none => _ | some y => _) = _; rw [e]
    | some y =>
      show (match pickMin (r.map fun p => (p, (0 : Int))) with | none => some (a, (0 : Int)) | some y => if (0 : Int) ≤ y.2 then some (a, 0) else some y) = _
      rw [e]
      have : y.2 = 0 := by
        cases r with
        | nil => cases e
        | cons b r =>
          obtain ⟨z, hz', zm, _⟩ := pick_some (kvs := (b :: r).map fun p => (p, (0 : Int))) (by simp)
          rw [hz'] at e
          cases e
          obtain ⟨p, _, rfl⟩ := List.mem_map.mp zm
          rfl
      exact if_pos (by omega)
  have ndk : (((a :: r).map fun p => (p, (0 : Int))).map (·.1)).Nodup := by rw [List.map_map]; exact (show ((a :: r).map id).Nodup by rw [List.map_id]; exact nd)
  have oc := orun_cons ndk pk List.mem_cons_self
  have be : behind ((a :: r).map fun p => (p, (0 : Int))) a = kvL r [a] := by
    have e0 : ((a :: r).map fun p => (p, (0 : Int))) = kvL (a :: r) [] := rfl
    rw [e0, kvL_behind, List.filter_cons_of_neg (by simp)]
    congr 1
    exact List.filter_eq_self.mpr fun y hy => decide_eq_true (show y ≠ a from fun e => (List.nodup_cons.mp nd).1 (e ▸ hy))
  have hl : (kvL r [a]).length = r.length := by unfold kvL; rw [List.length_map]
  have e : run0 (a :: r) = (a, 0) :: orun r.length (kvL r [a]) := by
    unfold run0
    have hm : ((a :: r).map fun p => (p, (0 : Int))).length = (a :: r).length := List.length_map ..
    rw [← hm, oc, be, hl]
  refine ⟨?_, ?_, (List.nodup_cons.mp nd).2, by simp; omega, rfl, fun x hx => List.mem_cons_of_mem _ hx, fun x hx => by rw [List.mem_singleton.mp hx]; exact List.mem_cons_self, fun x hx hm => (List.nodup_cons.mp nd).1 (List.mem_singleton.mp hm ▸ hx)⟩
  · unfold orderOf
    rw [e] <;> rfl
  · unfold numbersOf
    rw [e] <;> rfl
/-! ### items -/
def countedL (wd : Int) (ns : List Int) (m : Int) : List Int := (ns.take m.toNat).filter fun x => decide (x < wd)
theorem counted_sub (wd : Int) (ns : List Int) (m : Int) : (countedL wd ns m).length ≤ ns.length := Nat.le_trans (List.length_filter_le _ _) (List.length_take_le' _ _)
theorem asc_filter {wd : Int} : ∀ {l : List Int}, l.Pairwise (· ≤ ·) → (l.filter fun x => decide (x < wd)) = l.take (l.filter fun x => decide (x < wd)).length
  | [], _ => rfl
  | x :: l, h => by
    obtain ⟨h1, h2⟩ := List.pairwise_cons.mp h
    by_cases hx : x < wd
    · rw [List.filter_cons_of_pos (by simpa using hx), List.length_cons, List.take_succ_cons, ← asc_filter h2]
    · rw [List.filter_cons_of_neg (by simpa using hx)]
      have : (l.filter fun x => decide (x < wd)) = [] := List.filter_eq_nil_iff.mpr fun y hy => by have := h1 y hy; simp; omega
      rw [this] <;> rfl
theorem counted_take {wd m : Int} {ns : List Int} (h : ns.Pairwise (· ≤ ·)) : countedL wd ns m = ns.take (countedL wd ns m).length := by
  have hs : (ns.take m.toNat).Pairwise (· ≤ ·) := h.sublist (List.take_sublist _ _)
  have e := asc_filter (wd := wd) hs
  unfold countedL
  rw [List.take_take] at e
  have : ((ns.take m.toNat).filter fun x => decide (x < wd)).length ≤ m.toNat := Nat.le_trans (List.length_filter_le _ _) (List.length_take_le _ _)
  rw [Nat.min_eq_left this] at e
  exact e
/-- the sum along the good order, by steps -/
def newt : List Int → List Int → Int → Int
  | _, [], _ => 0
  | [], d :: _, _ => d
  | a :: o, d :: ds, x => d + (x - a) * newt o ds x
def bitsL (wd : Int) (ns : List Int) (m : Int) : List Int := (countedL wd ns m).map fun x => wd - x
structure PlanV where
  cls : Addr
  w : Int
  ps : List Int
  ct : Int
def PlanV.ord (p : PlanV) : List Int := orderOf p.ps
def PlanV.nums (p : PlanV) : List Int := numbersOf p.ps
def PlanV.many (p : PlanV) : Int := ((countedL p.w p.nums p.ct).length : Nat)
instance : Obj' PlanV := ⟨PlanV.cls, fun p => [("code_width", Py.is p.w), ("code_places", Py.is p.ps), ("code_count", Py.is p.ct), ("order", Py.is p.ord), ("numbers", Py.is p.nums), ("many", Py.is p.many)]⟩
def PlanV.ok (p : PlanV) : Prop := wOk p.w ∧ Places p.w p.ps ∧ 0 ≤ p.ct
def wordsL (wd : Int) (ps ds : List Int) : List Int := ps.map fun x => newt (orderOf ps) ds x % 2 ^ wd.toNat
end AP
set_option maxHeartbeats 4000000
/-! Loops over drawn things; new lists that grow on. -/
namespace AP
open PySem PySem.Spec PyProof.Rows L2 Evl
section
variable {K : PySem.W.Frag} {G : Option Addr} {c c0 c1 c2 c3 : Nat} {te ta tb tc tl : TE} {tt : TT} {t t1 t2 : TS} {tr : TA} {Γ : AP.Ctx} {α β γ : Type} [Py α] [Py β] [Py γ] {B B' H B0 H0 : Hp} {σ : L2.St} {z z0 : Int} {D : Ends} {tz : TS} {b : Bool}
theorem q_for1N {j cb : Nat} {A : Int → Prop} (s0 : At G z0 B0 H0) (n : Nx G c0 z0 B0 H0 z B H) (en : Slo B σ Γ) (h : Ty G c te Γ A) (hm : ∀ m, A m → -(2 ^ 62) ≤ m ∧ m < 2 ^ 62) (hz : z0 + (c0 + (c + 0)) ≤ 2 ^ 50)
    (Inv : Nat → AP.Ctx → Hp → Hp → Prop) (h0 : ∀ z' B' H', Nx G (c + 0) z B H z' B' H' → Slo B' σ Γ → Inv 0 Γ B' H') (up : ∀ i Γ B H H', Inv i Γ B H → Ex H H' → Inv i Γ B H')
    (hs : ∀ m, A m → ∀ Bs (i : Nat) Γ' z' B' H' σ', (i : Int) < m → Inv i Γ' B' H' → Ex Bs B' → Nx G (c0 + (c + 0) + i * cb) z0 B0 H0 z' B' H' → Slo B' σ' (Γ'.set j (some (Py.is (i : Int)))) →
      t { D with nx := Lw G z0 B0 H0 Bs (c0 + (c + 0)) cb Inv (i + 1), ct := Lw G z0 B0 H0 Bs (c0 + (c + 0)) cb Inv (i + 1), bk := D.nx } σ' H')
    (hd : ∀ m, A m → ∀ Γ' z' B' H' σ', Inv m.toNat Γ' B' H' → Ex B B' → Nx G (c0 + (c + 0) + m.toNat * cb) z0 B0 H0 z' B' H' → Slo B' σ' Γ' → D.nx σ' H') : tFor (iRng1 (tCons te tNil)) (gName j) t D σ H :=
  q_forX s0 n en (ti_rng1N (ta_consN h ta_nil) hm) hz Inv h0 up (fun m' em Bs i Γ' z' B' H' σ' hi inv eb n en => by
    obtain ⟨m, hm', rfl⟩ := em
    exact hs m hm' Bs i Γ' z' B' H' σ' (by omega) inv eb n en) fun m' em Γ' z' B' H' σ' inv eb2 n en => by
    obtain ⟨m, hm', rfl⟩ := em
    exact hd m hm' Γ' z' B' H' σ' inv eb2 n en
theorem q_for1NS {j cb : Nat} {A : Int → Prop} (s0 : At G z0 B0 H0) (n : Nx G c0 z0 B0 H0 z B H) (en : Slo B σ Γ) (h : Ty G c te Γ A) (hm : ∀ m, A m → -(2 ^ 62) ≤ m ∧ m < 2 ^ 62) (hz : z0 + (c0 + (c + 0)) ≤ 2 ^ 50)
    (Inv : Nat → AP.Ctx → Hp → Hp → Prop) (h0 : ∀ z' B' H', Nx G (c + 0) z B H z' B' H' → Slo B' σ Γ → Inv 0 Γ B' H') (up : ∀ i Γ B H H', Inv i Γ B H → Ex H H' → Inv i Γ B H')
    (hs : ∀ m, A m → ∀ Bs (i : Nat) Γ' z' B' H' σ', (i : Int) < m → Inv i Γ' B' H' → Ex Bs B' → Nx G (c0 + (c + 0) + i * cb) z0 B0 H0 z' B' H' → Slo B' σ' (Γ'.set j (some (Py.is (i : Int)))) →
      t { D with nx := Lw G z0 B0 H0 Bs (c0 + (c + 0)) cb Inv (i + 1), ct := Lw G z0 B0 H0 Bs (c0 + (c + 0)) cb Inv (i + 1), bk := tz D } σ' H')
    (hd : ∀ m, A m → ∀ Γ' z' B' H' σ', Inv m.toNat Γ' B' H' → Ex B B' → Nx G (c0 + (c + 0) + m.toNat * cb) z0 B0 H0 z' B' H' → Slo B' σ' Γ' → tz D σ' H') : tSeq (tFor (iRng1 (tCons te tNil)) (gName j) t) tz D σ H :=
  q_for1N (D := { D with nx := tz D }) s0 n en h hm hz Inv h0 up hs hd
theorem TyN.le {A : α → Prop} (h : TyN G c1 te Γ A) (i : c1 ≤ c2) : TyN G c2 te Γ A := fun z B σ H en s hz Q q => h z B σ H en s (by omega) Q fun x v z' B' H' a n is => q x v z' B' H' a (n.le i) is
end
/-! shapes of written data -/
theorem Shp.of {α : Type} [Py α] [DecidableEq α] [DatOf α] {x : α} (h : DatOf.dep α ≤ 60 := by decide) : Shp (DatOf.toD x) := shp h
end AP
set_option maxHeartbeats 4000000
/-! What the helpers of the codes' laws come to. -/
namespace AP
open PySem PySem.Spec PyProof.Rows L2 Evl
/-! ### drawn places -/
structure PlInv (wd : Int) (xs : List Int) (k : Nat) : Prop where
  nd : xs.Nodup
  bd : ∀ p ∈ xs, 0 ≤ p ∧ p < 2 ^ wd.toNat
  le : xs.length ≤ k
  pos : 0 < k → 0 < xs.length
theorem PlInv.start {wd : Int} : PlInv wd [] 0 := ⟨List.nodup_nil, by simp, by simp, by simp⟩
theorem PlInv.new {wd p : Int} {xs : List Int} {k : Nat} (h : PlInv wd xs k) (hp : p ∉ xs) (hb : 0 ≤ p ∧ p < 2 ^ wd.toNat) : PlInv wd (xs ++ [p]) (k + 1) := by
  refine ⟨List.nodup_append.mpr ⟨h.nd, by simp, fun a ha b hb' => by rw [List.mem_singleton.mp hb']; exact fun e => hp (e ▸ ha)⟩, fun q hq => ?_, by rw [List.length_append]; have := h.le; simp; omega, fun _ => by rw [List.length_append]; simp⟩
  rcases List.mem_append.mp hq with q1 | q1
  · exact h.bd q q1
  · rw [List.mem_singleton.mp q1]; exact hb
theorem PlInv.old {wd p : Int} {xs : List Int} {k : Nat} (h : PlInv wd xs k) (hp : p ∈ xs) : PlInv wd xs (k + 1) := ⟨h.nd, h.bd, by have := h.le; omega, fun _ => List.length_pos_of_mem hp⟩
theorem PlInv.done {wd most m : Int} {xs l : List Int} (h : PlInv wd xs m.toNat) (hm : ∃ i j : Int, i = 1 ∧ (0 ≤ j ∧ j < most) ∧ m = i + j) (e : ∃ ns : List Int, ns = xs ∧ l.Perm ns ∧ l.Pairwise (· ≤ ·)) : AscN wd most l := by
  obtain ⟨i, j, e1, hj, e2⟩ := hm
  obtain ⟨ns, rfl, pm, so⟩ := e
  have h1 := h.le
  have h2 := h.pos (by omega)
  exact sorted_asc pm so h.nd h2 (by omega) h.bd
/-! ### the law's own good order -/
theorem AscN.small {w m : Int} {ps : List Int} (hw : 1 ≤ w ∧ w ≤ 64) (h : AscN w m ps) : ∀ a ∈ ps, 0 ≤ a ∧ a.natAbs < 2 ^ 65 := fun a ha => by
  obtain ⟨h0, h1⟩ := h.2.2.1 a ha
  rw [two_cast'] at h1
  have := Nat.pow_le_pow_right (n := 2) (by decide) (show w.toNat ≤ 64 by omega)
  have : a.natAbs < 2 ^ 64 := by omega
  exact ⟨h0, Nat.lt_trans this (by decide)⟩
theorem AscN.ne {w m : Int} {ps : List Int} (h : AscN w m ps) : ps ≠ [] := fun e => by have := h.1; rw [e] at this; exact absurd this (by decide)
end AP
set_option maxHeartbeats 4000000
/-! Bounds of numbers; items at all widths. -/
namespace AP
open PySem PySem.Spec PyProof.Rows L2 Evl
theorem numbers_nn {ps : List Int} (nd : ps.Nodup) : ∀ x ∈ numbersOf ps, 0 ≤ x := fun x hx => by
  obtain ⟨y, hy, rfl⟩ := List.mem_map.mp hx
  exact (run0_gr nd).ge (m := 0) (fun w hw => by obtain ⟨z, _, rfl⟩ := List.mem_map.mp hw; exact Int.le_refl _) y hy
/-! ### widths -/
end AP
set_option maxHeartbeats 4000000
/-! The products along a good order, and what sums of them tell. -/
namespace AP
open PySem PySem.Spec PyProof.Rows L2 Evl
/-- an order with its numbers, some places being taken: what each costs, and that none left costs less -/
inductive Along : List Int → List Int → List Int → Prop
  | nil {pre : List Int} : Along pre [] []
  | cons {pre o ns : List Int} {a : Int} : (∀ b ∈ a :: o, twosTo a pre ≤ twosTo b pre) → Along (pre ++ [a]) o ns → Along pre (a :: o) (twosTo a pre :: ns)
theorem kvL_mem {left ord : List Int} {x : Int × Int} (h : x ∈ kvL left ord) : x.1 ∈ left ∧ x.2 = twosTo x.1 ord := by
  obtain ⟨p, hp, rfl⟩ := List.mem_map.mp h
  exact ⟨hp, rfl⟩
theorem gr_along : ∀ {kvs l : KC}, Gr kvs l → ∀ {left ord : List Int}, left.Nodup → kvs = kvL left ord → Along ord (l.map (·.1)) (l.map (·.2)) := by
  intro kvs l h
  induction h with
  | nil => intro left ord _ _; exact .nil
  | @cons kvs l x h1 h2 h3 ih =>
    intro left ord nd e
    subst e
    obtain ⟨xl, xe⟩ := kvL_mem h1
    rw [List.map_cons, List.map_cons, xe]
    have nd2 : (left.filter fun y => decide (y ≠ x.1)).Nodup := nd.filter _
    have ih := ih nd2 (kvL_behind left ord x.1)
    refine .cons (fun b hb => ?_) ih
    have bl : b ∈ left := by
      rcases List.mem_cons.mp hb with q | q
      · rw [q]; exact xl
      · have ks := h3.keys (by rw [kvL_behind, kvL_keys]; exact nd2)
        rw [kvL_behind, kvL_keys] at ks
        exact (List.mem_filter.mp (ks.mem_iff.mp q)).1
    have := h2 (b, twosTo b ord) (List.mem_map.mpr ⟨b, bl, rfl⟩)
    rw [xe] at this
    exact this
theorem order_along {ps : List Int} (nd : ps.Nodup) : Along [] (orderOf ps) (numbersOf ps) := gr_along (run0_gr nd) nd rfl
/-- the product of the differences -/
def prodTo (x : Int) : List Int → Int
  | [] => 1
  | a :: r => (x - a) * prodTo x r
theorem prodTo_snoc (x a : Int) : ∀ l, prodTo x (l ++ [a]) = prodTo x l * (x - a)
  | [] => by simp [prodTo]
  | b :: l => by
    rw [List.cons_append]
    unfold prodTo
    rw [prodTo_snoc x a l, Int.mul_assoc]
theorem prodTo_ne {x : Int} : ∀ {l : List Int}, x ∉ l → prodTo x l ≠ 0
  | [], _ => by show (1 : Int) ≠ 0; decide
  | a :: l, h => by
    have h1 : x ≠ a := fun e => h (e ▸ List.mem_cons_self)
    have h2 := prodTo_ne fun e => h (List.mem_cons_of_mem a e)
    exact Int.mul_ne_zero (by omega) h2
/-- 2 ^ twos times an odd number -/
theorem twos_split : ∀ (k : Nat) {n : Int}, n ≠ 0 → n.natAbs ≤ k → ∃ o : Int, o % 2 = 1 ∧ n = 2 ^ (twos n).toNat * o
  | 0, n, h0, hk => by omega
  | k + 1, n, h0, hk => by
    by_cases h : n % 2 = 0
    · obtain ⟨o, ho, e⟩ := twos_split k (n := n / 2) (by omega) (by omega)
      refine ⟨o, ho, ?_⟩
      rw [twos_even h0 h]
      have := twos_nonneg (n / 2)
      rw [show (twos (n / 2) + 1).toNat = (twos (n / 2)).toNat + 1 by omega, Int.pow_succ, Int.mul_comm _ 2, Int.mul_assoc, ← e]
      omega
    · have h : n % 2 = 1 := by omega
      exact ⟨n, h, by rw [twos_odd h]; show n = 2 ^ 0 * n; rw [Int.pow_zero, Int.one_mul]⟩
theorem twos_mul {a b : Int} (ha : a ≠ 0) (hb : b ≠ 0) : twos (a * b) = twos a + twos b := by
  obtain ⟨o, ho, e⟩ := twos_split _ ha (Nat.le_refl _)
  have := twos_nonneg a
  conv => lhs; rw [e]
  rw [Int.mul_assoc, twos_pow_mul _ (by intro z; rcases Int.mul_eq_zero.mp z with z | z; rw [z] at ho; cases ho; exact hb z), twos_odd_mul ho _ _ (Nat.le_refl _)]
  omega
theorem twos_prod {x : Int} : ∀ {l : List Int}, x ∉ l → twos (prodTo x l) = twosTo x l
  | [], _ => twos_odd rfl
  | a :: l, h => by
    have h1 : x ≠ a := fun e => h (e ▸ List.mem_cons_self)
    have h2 : x ∉ l := fun e => h (List.mem_cons_of_mem a e)
    show twos ((x - a) * prodTo x l) = twos (x - a) + twosTo x l
    rw [twos_mul (by omega) (prodTo_ne h2), twos_prod h2]
theorem dvd_twos {n : Int} {k : Nat} (h : n = 0 ∨ (k : Int) ≤ twos n) : ((2 : Int) ^ k) ∣ n := by
  rcases h with h | h
  · rw [h]; exact Int.dvd_zero _
  · by_cases h0 : n = 0
    · rw [h0]; exact Int.dvd_zero _
    · exact Int.dvd_trans (pow_dvd_pow (by omega)) (twos_dvd _ h0 (Nat.le_refl _))
/-- an odd factor may be left aside -/
theorem odd_cancel {o x : Int} (ho : o % 2 = 1) : ∀ (k : Nat), ((2 : Int) ^ k) ∣ o * x → ((2 : Int) ^ k) ∣ x
  | 0, _ => ⟨x, by rw [Int.pow_zero, Int.one_mul]⟩
  | k + 1, h => by
    have h1 := odd_cancel ho k (Int.dvd_trans (pow_dvd_pow (Nat.le_succ k)) h)
    obtain ⟨y, rfl⟩ := h1
    rw [Int.pow_succ] at h ⊢
    have h2 : (2 : Int) ^ k * 2 ∣ 2 ^ k * (o * y) := by
      have : o * (2 ^ k * y) = 2 ^ k * (o * y) := by rw [← Int.mul_assoc, Int.mul_comm o, Int.mul_assoc]
      rwa [this] at h
    have tp : (2 : Int) ^ k ≠ 0 := by
      have := Int.pow_pos (n := 2) (m := k) (by decide)
      omega
    have h3 : (2 : Int) ∣ o * y := Int.dvd_of_mul_dvd_mul_left tp h2
    have h4 : (2 : Int) ∣ y := by
      have e : (o * y) % 2 = 0 := Int.emod_eq_zero_of_dvd h3
      rw [Int.mul_emod, ho] at e
      omega
    exact Int.mul_dvd_mul_left _ h4
theorem two_cancel {n x : Int} {w : Nat} (h0 : n ≠ 0) (h : ((2 : Int) ^ w) ∣ n * x) (hw : twos n ≤ w) : ((2 : Int) ^ (w - (twos n).toNat)) ∣ x := by
  obtain ⟨o, ho, e⟩ := twos_split _ h0 (Nat.le_refl _)
  have tn := twos_nonneg n
  refine odd_cancel ho _ ?_
  have tp : (2 : Int) ^ (twos n).toNat ≠ 0 := by
    have := Int.pow_pos (n := 2) (m := (twos n).toNat) (by decide)
    omega
  refine Int.dvd_of_mul_dvd_mul_left tp ?_
  rw [← Int.pow_add, show (twos n).toNat + (w - (twos n).toNat) = w by omega, ← Int.mul_assoc, ← e]
  exact h
/-- items within their bounds -/
def ItemsOk (bs ds : List Int) : Prop := ds.length = bs.length ∧ ∀ e ∈ bs.zip ds, 0 ≤ e.2 ∧ e.2 < 2 ^ e.1.toNat
end AP
set_option maxHeartbeats 4000000
/-! Dicts whose keys are tuples of numbers: made, written, counted. -/
namespace AP
open PySem PySem.Spec PyProof.Rows L2 Evl
variable {K : PySem.W.Frag} {G : Option Addr} {c c0 c1 c2 : Nat} {te ta tb tr : TE} {Γ : Ctx} {B H B0 H0 : Hp} {σ : L2.St} {z z0 : Int} {D : Ends} {tz : TS}
/-- a tuple of numbers -/
structure TupI where
  items : List Int
  deriving DecidableEq
instance : Py TupI := ⟨fun t v B => ∃ p, v = .ref p ∧ B p = some (.tup (t.items.map V.int)), fun _ _ _ _ e ⟨p, h1, h2⟩ => ⟨p, h1, e _ _ h2⟩⟩
/-- a dict, by its number of entries -/
structure DicT where
  many : Nat
instance : Py DicT := ⟨fun d v B => ∃ p kvs, v = .ref p ∧ B p = some (.dT kvs) ∧ kvs.length = d.many, fun _ _ _ _ e ⟨p, kvs, h1, h2, h3⟩ => ⟨p, kvs, h1, e _ _ h2, h3⟩⟩
def rTupOf (K : PySem.W.Frag) : List V → Hp → VK → Prop := fun xs H Q => ∃ p ys, xs = [.ref p] ∧ ((SqL K H p ys ∧ ∀ l, H l = none → Q (.ref l) (upd H l (.tup ys))) ∨ (SqT K H p ys ∧ Q (.ref p) H))
theorem ty_tupI {xs : List Int} (h : Ty G c ta Γ (· = xs)) : Ty G (c + 0) (tCB (rTupOf K) (tCons ta tNil)) Γ (· = TupI.mk xs) :=
  ty_cb (ta_cons h ta_nil) fun vs B al z B' H e s Q q => by
    obtain ⟨v, rfl, p, us, rfl, h1, h2⟩ := al.one
    refine ⟨p, us, rfl, Or.inl ⟨sq_of (s.ex _ _ (e _ _ h1)), fun r hr => ?_⟩⟩
    have eu := h2.ints
    subst eu
    have n := Nx.alloc (o := .tup (xs.map V.int)) s hr
    exact q _ _ _ _ _ rfl n ⟨r, rfl, upd_same⟩
/-- the dict's keys -/
def keyI (t : TupI) : List L2.Key := t.items.map Sum.inl
theorem keyI_inj {s t : TupI} (h : keyI s = keyI t) : s = t := by
  cases s with
  | mk a =>
  cases t with
  | mk b =>
  unfold keyI at h
  congr
  exact (List.map_inj_right fun x y h => Sum.inl.inj h).mp h
structure EachD (B : Hp) (xs : List TupI) (kvs : List (List L2.Key × V)) : Prop where
  keys : kvs.map (·.1) = xs.map keyI
theorem EachD.ex {B B' : Hp} {xs : List TupI} {kvs : List (List L2.Key × V)} (h : EachD B xs kvs) (_ : Ex B B') : EachD B' xs kvs := ⟨h.keys⟩
theorem EachD.nil {B : Hp} : EachD B [] [] := ⟨rfl⟩
theorem EachD.len {B : Hp} {xs : List TupI} {kvs : List (List L2.Key × V)} (h : EachD B xs kvs) : kvs.length = xs.length := by
  have := congrArg List.length h.keys
  rwa [List.length_map, List.length_map] at this
theorem EachD.snoc {B : Hp} {xs : List TupI} {kvs : List (List L2.Key × V)} {x : TupI} {v : V} (h : EachD B xs kvs) : EachD B (xs ++ [x]) (kvs ++ [(keyI x, v)]) := ⟨by rw [List.map_append, List.map_append, h.keys] <;> rfl⟩
theorem EachD.fresh {B : Hp} {xs : List TupI} {kvs : List (List L2.Key × V)} {x : TupI} {v : V} (h : EachD B xs kvs) (hx : x ∉ xs) : putK kvs (keyI x) v = kvs ++ [(keyI x, v)] := by
  unfold putK
  rw [if_neg]
  intro q
  obtain ⟨kv, hm, e⟩ := List.any_eq_true.mp q
  have e : kv.1 = keyI x := of_decide_eq_true e
  have : keyI x ∈ xs.map keyI := by rw [← h.keys, ← e]; exact List.mem_map.mpr ⟨kv, hm, rfl⟩
  obtain ⟨y, hy, e2⟩ := List.mem_map.mp this
  exact hx (keyI_inj e2 ▸ hy)
end AP
set_option maxHeartbeats 4000000
/-! All items lists of a code, and how many codewords it has. -/
namespace AP
open PySem PySem.Spec PyProof.Rows L2 Evl
theorem rg1_len' (n : Int) : (rg1 n).length = n.toNat := by unfold rg1; rw [List.length_map, List.length_range]
theorem rg1_mem' {n x : Int} (h : x ∈ rg1 n) : 0 ≤ x ∧ x < n := by
  unfold rg1 at h
  obtain ⟨k, hk, rfl⟩ := List.mem_map.mp h
  have := List.mem_range.mp hk
  show (0 : Int) ≤ (k : Int) ∧ (k : Int) < n
  omega
theorem two_toNat (k : Nat) : ((2 : Int) ^ k).toNat = 2 ^ k := by rw [two_cast', Int.toNat_natCast]
theorem counted_mem {w m : Int} {ns : List Int} {x : Int} (h : x ∈ countedL w ns m) : x ∈ ns ∧ x < w := by
  unfold countedL at h
  obtain ⟨h1, h2⟩ := List.mem_filter.mp h
  exact ⟨List.mem_of_mem_take h1, of_decide_eq_true h2⟩
end AP
set_option maxHeartbeats 4000000
/-! dict(zip(xs, ys)) of lists of numbers; a number out of a dict. -/
namespace AP
open PySem PySem.Spec PyProof.Rows L2 Evl
section
variable {K : PySem.W.Frag} {G : Option Addr} {c c0 c1 c2 : Nat} {te ta tb td : TE} {Γ : Ctx}
/-- a number out of a dict -/
def valI (d : DictI) (k : Int) : Int := ((d.kvs.find? fun e => decide (e.1 = k)).map (·.2)).getD 0
end
end AP
set_option maxHeartbeats 4000000
/-! Items read off words: the inverse of an odd number, one item, all items. -/
namespace AP
open PySem PySem.Spec PyProof.Rows L2 Evl
end AP
set_option maxHeartbeats 4000000
/-! What is read off words: sound, whole, and polynomials brought to items. -/
namespace AP
open PySem PySem.Spec PyProof.Rows L2 Evl
theorem prodTo_zero {x : Int} : ∀ {l : List Int}, x ∈ l → prodTo x l = 0
  | a :: l, h => by
    show (x - a) * prodTo x l = 0
    rcases List.mem_cons.mp h with rfl | h
    · rw [Int.sub_self, Int.zero_mul]
    · rw [prodTo_zero h, Int.mul_zero]
end AP
set_option maxHeartbeats 4000000
/-! The reading of a good order: sound and whole. -/
namespace AP
open PySem PySem.Spec PyProof.Rows L2 Evl
theorem along_get : ∀ {pre o ns : List Int}, Along pre o ns → ∀ {j : Nat} {a : Int}, o[j]? = some a → ns[j]? = some (twosTo a (pre ++ o.take j)) := by
  intro pre o ns al
  induction al with
  | nil => intro j a h; cases h
  | @cons pre o ns b h1 h2 ih =>
    intro j a h
    cases j with
    | zero =>
      cases h
      rw [List.take_zero, List.append_nil]
      rfl
    | succ j =>
      have := ih (j := j) (a := a) h
      rw [List.append_assoc] at this
      exact this
theorem take_nin {l : List Int} {k : Nat} {x : Int} (nd : l.Nodup) (h : l[k]? = some x) : x ∉ l.take k := fun hm => by
  obtain ⟨j, hj, e⟩ := List.mem_iff_getElem.mp hm
  rw [List.length_take] at hj
  rw [List.getElem_take] at e
  obtain ⟨hk, e2⟩ := List.getElem?_eq_some_iff.mp h
  have := (List.pairwise_iff_getElem.mp nd) j k (by omega) hk (by omega)
  rw [e, e2] at this
  exact this rfl
/-- what one place of the order tells -/
structure Rd1 (w : Int) (ord nums : List Int) : Prop where
  nd : ord.Nodup
  al : Along [] ord nums
  w1 : 1 ≤ w
  w64 : w ≤ 64
theorem Rd1.at {w : Int} {ord nums : List Int} (R : Rd1 w ord nums) {k : Nat} {x : Int} (h : ord[k]? = some x) : prodTo x (ord.take k) ≠ 0 ∧ nums.getD k 0 = twos (prodTo x (ord.take k)) := by
  have nin := take_nin R.nd h
  refine ⟨prodTo_ne nin, ?_⟩
  have := along_get R.al h
  rw [List.nil_append] at this
  rw [List.getD_eq_getElem?_getD, this, twos_prod nin]
  rfl
end AP
set_option maxHeartbeats 4000000
/-! Codes: words read off, by width, places and count. -/
namespace AP
open PySem PySem.Spec PyProof.Rows L2 Evl
theorem val_zip : ∀ {ps ws : List Int}, ps.Nodup → ps.length = ws.length → ∀ {i : Nat} {x y : Int}, ps[i]? = some x → ws[i]? = some y → valI (DictI.mk (ps.zip ws)) x = y
  | [], _, _, _, i, x, y, h, _ => by cases h
  | a :: ps, [], _, hl, _, _, _, _, _ => by cases hl
  | a :: ps, b :: ws, nd, hl, i, x, y, hx, hy => by
    obtain ⟨n1, n2⟩ := List.nodup_cons.mp nd
    unfold valI
    rw [List.zip_cons_cons]
    by_cases q : a = x
    · rw [List.find?_cons_of_pos (by simpa using q)]
      cases i with
      | zero => cases hy; rfl
      | succ i =>
        have : x ∈ ps := List.mem_of_getElem? (show ps[i]? = some x from hx)
        exact absurd (q ▸ this) n1
    · rw [List.find?_cons_of_neg (by simpa using q)]
      cases i with
      | zero => cases hx; exact absurd rfl q
      | succ i => exact val_zip n2 (Nat.succ.inj hl) (i := i) hx hy
/-- items by their indices -/
theorem items_ix {wd ct : Int} {ps ds : List Int} (nd : ps.Nodup) : ItemsOk (bitsL wd (numbersOf ps) ct) ds ↔ ds.length = (countedL wd (numbersOf ps) ct).length ∧ ∀ j d, ds[j]? = some d → (numbersOf ps).getD j 0 < wd ∧ 0 ≤ d ∧ d < 2 ^ (wd - (numbersOf ps).getD j 0).toNat := by
  have ce := counted_take (wd := wd) (m := ct) (numbers_asc nd)
  have cs := counted_sub wd (numbersOf ps) ct
  have bl : (bitsL wd (numbersOf ps) ct).length = (countedL wd (numbersOf ps) ct).length := by unfold bitsL; rw [List.length_map]
  have cget : ∀ j, j < (countedL wd (numbersOf ps) ct).length → (countedL wd (numbersOf ps) ct)[j]? = some ((numbersOf ps).getD j 0) := fun j hj => by
    rw [ce, List.getElem?_take, if_pos hj, List.getD_eq_getElem?_getD, List.getElem?_eq_getElem (by omega)]
    rfl
  have bget : ∀ j, j < (countedL wd (numbersOf ps) ct).length → (bitsL wd (numbersOf ps) ct)[j]? = some (wd - (numbersOf ps).getD j 0) := fun j hj => by
    unfold bitsL
    rw [List.getElem?_map, cget j hj]
    rfl
  constructor
  · intro ⟨h1, h2⟩
    refine ⟨by rw [h1, bl], fun j d hd => ?_⟩
    have hj : j < (countedL wd (numbersOf ps) ct).length := by
      have := (List.getElem?_eq_some_iff.mp hd).1
      omega
    have hm : (wd - (numbersOf ps).getD j 0, d) ∈ (bitsL wd (numbersOf ps) ct).zip ds := List.mem_of_getElem? (i := j) (List.getElem?_zip_eq_some.mpr ⟨bget j hj, hd⟩)
    exact ⟨(counted_mem (List.mem_of_getElem? (cget j hj))).2, h2 _ hm⟩
  · intro ⟨h1, h2⟩
    refine ⟨by rw [h1, bl], fun e he => ?_⟩
    obtain ⟨j, hj, q⟩ := List.mem_iff_getElem.mp he
    have q2 := List.getElem?_eq_getElem hj
    rw [q] at q2
    obtain ⟨g1, g2⟩ := List.getElem?_zip_eq_some.mp q2
    have hj2 : j < (countedL wd (numbersOf ps) ct).length := by
      have := (List.getElem?_eq_some_iff.mp g2).1
      omega
    rw [bget j hj2] at g1
    have := h2 j e.2 g2
    rw [← Option.some.inj g1]
    exact this.2
end AP
set_option maxHeartbeats 4000000
/-! A list that grows: an item is written, added to, taken off. -/
namespace AP
open PySem PySem.Spec PyProof.Rows L2 Evl
section
variable {K : PySem.W.Frag} {G : Option Addr} {c c0 c1 c2 : Nat} {te ti : TE} {Γ : Ctx} {B H B0 H0 : Hp} {σ : L2.St} {z z0 : Int} {D : Ends} {tz : TS} {l : Addr}
theorem Nx.put {o u : HO} (s0 : At G z0 B0 H0) (n : Nx G c z0 B0 H0 z B H) (hl : H l = some u) (nl : B l = none) (n0 : H0 l = none) : Nx G c z0 B0 H0 z B (upd H l o) := by
  have gl : G ≠ some l := fun hg => by
    obtain ⟨_, _, _, q1, _⟩ := s0.gen l hg
    rw [q1] at n0
    cases n0
  refine ⟨⟨fun a w ha => ?_, fun g hg => ?_⟩, n.up, n.new, n.lo, n.hi, fun a w hg ha => ?_⟩
  · rw [upd_ne (ne_of_none ha nl)]
    exact n.at_.ex a w ha
  · obtain ⟨q1, x, y, q2, q3⟩ := n.at_.gen g hg
    exact ⟨q1, x, y, by rw [upd_ne (fun z => gl (by rw [hg, z]))]; exact q2, q3⟩
  · rw [upd_ne (ne_of_none ha n0)]
    exact n.keep a w hg ha
theorem Each.set {B : Hp} {x : Int} : ∀ {xs : List Int} {us : List V} (j : Nat), Each B xs us → Each B (xs.set j x) (us.set j (.int x))
  | [], [], _, _ => .nil
  | _ :: _, _ :: _, 0, .cons h1 h2 => .cons rfl h2
  | _ :: _, _ :: _, j + 1, .cons h1 h2 => .cons h1 (Each.set j h2)
end
end AP
set_option maxHeartbeats 4000000
/-! New lists by comprehensions over pairs, by slices; x += e. -/
namespace AP
open PySem PySem.Spec PyProof.Rows L2 Evl
end AP
set_option maxHeartbeats 4000000
/-! Coefficients: times (x - a), the last zeros left aside. -/
namespace AP
open PySem PySem.Spec PyProof.Rows L2 Evl
end AP
set_option maxHeartbeats 4000000
/-! New lists in a parallel assignment; a while over one growing list. -/
namespace AP
open PySem PySem.Spec PyProof.Rows L2 Evl
section
variable {K : PySem.W.Frag} {G : Option Addr} {c c0 c1 c2 c3 : Nat} {te ta tb tc : TE} {tt : TT} {t : TS} {Γ : AP.Ctx} {α β : Type} [Py α] [Py β] {A : α → Prop} {A1 : β → Prop} {A2 : List Int → Prop} {B B' H H' B0 H0 : Hp} {σ : L2.St} {z z' z0 : Int} {D : Ends} {tz : TS} {v : V}
theorem Nx.split {xs : List Int} (n' : Nx G c z B H z' B' H') (hv : Py.is xs v (diff B' B)) : ∃ l us B2, v = .ref l ∧ H' l = some (.lst us) ∧ B2 l = none ∧ H l = none ∧ Each B2 xs us ∧ Nx G c z B H z' B2 H' ∧ Ex B B2 := by
  obtain ⟨l, us, rfl, e1, e2⟩ := hv
  obtain ⟨b1, b2⟩ := diff_at e1
  have hn : H l = none := by
    rcases n'.new l _ b2 with q | q
    · rw [b1] at q; cases q
    · rcases q with q | ⟨_, q, _⟩
      · exact q
      · cases q
  have n2 : Nx G c z B H z' (fun a => if a = l then none else B' a) H' := ⟨⟨fun a o e => by
      have e : (if a = l then none else B' a) = some o := e
      by_cases q : a = l
      · rw [if_pos q] at e; cases e
      · rw [if_neg q] at e; exact n'.at_.ex a o e, fun g hg => ⟨by
        show (if g = l then none else B' g) = none
        split
        · rfl
        · exact (n'.at_.gen g hg).1, (n'.at_.gen g hg).2⟩⟩, fun a o e => by
      show (if a = l then none else B' a) = some o
      rw [if_neg fun q => by rw [q, b1] at e; cases e]
      exact n'.up a o e, fun a o e => by
      have e : (if a = l then none else B' a) = some o := e
      by_cases q : a = l
      · rw [if_pos q] at e; cases e
      · rw [if_neg q] at e; exact n'.new a o e, n'.lo, n'.hi, n'.keep⟩
  exact ⟨l, us, _, rfl, n'.at_.ex _ _ b2, if_pos rfl, hn, Each.flat flat_int e2, n2, n2.up⟩
end
end AP
set_option maxHeartbeats 4000000
/-! Items times products, forwards and by Horner's way: the same coefficients. -/
namespace AP
open PySem PySem.Spec PyProof.Rows L2 Evl
def TA' (a : Int) (f : Nat → Int) : Nat → Int := fun j => (match j with | 0 => 0 | i + 1 => f i) - a * f j
def dl (d : Int) : Nat → Int := fun j => if j = 0 then d else 0
/-- what commutes with all times (x - a) -/
structure Lin (S : (Nat → Int) → Nat → Int) : Prop where
  add : ∀ f g, S (fun j => f j + g j) = fun j => S f j + S g j
  mul : ∀ (d : Int) f, S (fun j => d * f j) = fun j => d * S f j
  com : ∀ a f, S (TA' a f) = TA' a (S f)
theorem TA_add (a : Int) (f g : Nat → Int) : TA' a (fun j => f j + g j) = fun j => TA' a f j + TA' a g j := by
  funext j
  cases j with
  | zero => show 0 - a * (f 0 + g 0) = (0 - a * f 0) + (0 - a * g 0); rw [Int.mul_add]; omega
  | succ i => show (f i + g i) - a * (f (i + 1) + g (i + 1)) = (f i - a * f (i + 1)) + (g i - a * g (i + 1)); rw [Int.mul_add]; omega
theorem TA_mul (a d : Int) (f : Nat → Int) : TA' a (fun j => d * f j) = fun j => d * TA' a f j := by
  funext j
  cases j with
  | zero => show 0 - a * (d * f 0) = d * (0 - a * f 0); rw [Int.mul_sub, Int.mul_zero, Int.mul_left_comm]
  | succ i => show d * f i - a * (d * f (i + 1)) = d * (f i - a * f (i + 1)); rw [Int.mul_sub, Int.mul_left_comm]
theorem TA_com (a b : Int) (f : Nat → Int) : TA' a (TA' b f) = TA' b (TA' a f) := by
  funext j
  cases j with
  | zero => show 0 - a * (0 - b * f 0) = 0 - b * (0 - a * f 0); rw [Int.mul_sub, Int.mul_sub, Int.mul_left_comm, Int.mul_zero, Int.mul_zero]
  | succ i =>
    cases i with
    | zero => show (0 - b * f 0) - a * (f 0 - b * f 1) = (0 - a * f 0) - b * (f 0 - a * f 1); rw [Int.mul_sub, Int.mul_sub, Int.mul_left_comm a b]; omega
    | succ i => show (f i - b * f (i + 1)) - a * (f (i + 1) - b * f (i + 2)) = (f i - a * f (i + 1)) - b * (f (i + 1) - a * f (i + 2)); rw [Int.mul_sub, Int.mul_sub, Int.mul_left_comm a b]; omega
theorem Lin.step {S : (Nat → Int) → Nat → Int} (h : Lin S) (a : Int) : Lin (fun f => S (TA' a f)) :=
  ⟨fun f g => by show S (TA' a fun j => f j + g j) = _; rw [TA_add, h.add], fun d f => by show S (TA' a fun j => d * f j) = _; rw [TA_mul, h.mul], fun b f => by show S (TA' a (TA' b f)) = TA' b (S (TA' a f)); rw [TA_com, h.com]⟩
theorem Lin.one : Lin (fun f => f) := ⟨fun _ _ => rfl, fun _ _ => rfl, fun _ _ => rfl⟩
end AP
set_option maxHeartbeats 4000000
/-! A comprehension over a drawn number of turns. -/
namespace AP
open PySem PySem.Spec PyProof.Rows L2 Evl
end AP
set_option maxHeartbeats 4000000
/-! Coefficients told of items: their words, their length; codes of one item fewer. -/
namespace AP
open PySem PySem.Spec PyProof.Rows L2 Evl
end AP
set_option maxHeartbeats 4000000
/-! for x in reversed(xs); xs.reverse() on a growing list. -/
namespace AP
open PySem PySem.Spec PyProof.Rows L2 Evl
end AP
set_option maxHeartbeats 4000000
/-! Errors: defs that raise, a caught error that is kept as a value. -/
namespace AP
open PySem PySem.Spec PyProof.Rows L2 Evl
/-- a value of any kind together with what stands for it -/
structure DU where
  d : Dat
  u : V
instance : Py DU := ⟨fun x v B => v = x.u ∧ Py.is x.d v B, fun x _ _ _ e ⟨a, b⟩ => ⟨a, Py.st x.d _ _ _ e b⟩⟩
/-- an object that is an exception of the class at C with its dict at d -/
structure ExAt (h : Heap) (a C d : Addr) : Prop where
  ex : ∃ o vs, h.get? a = some o ∧ o.cls = .ref C ∧ o.dict = some d ∧ o.data = .fields vs
/-- an error that was caught: at a -/
def exq (a C d : Addr) : HO := .ext fun h => ExAt h a C d
theorem exq_ok {P : Program} {w : World} {H : Hp} {h : Heap} {a C d : Addr} (e : ExAt h a C d) : ObjOk P w H h a (exq a C d) := by
  obtain ⟨o, vs, e1, e2, e3, e4⟩ := e.ex
  exact ⟨e, ⟨o, e1⟩, fun h1 h2 z k => by
    obtain ⟨o, vs, z1, z2, z3, z4⟩ := z.ex
    exact ⟨o, vs, k o z1, z2, z3, z4⟩⟩
theorem exq_at {P : Program} {w : World} {H : Hp} {h : Heap} {a C d : Addr} (hok : HOk P w H h) (he : H a = some (exq a C d)) : ExAt h a C d := by
  have x : ObjOk P w H h a (.ext fun h => ExAt h a C d) := hok a _ he
  exact x.1
section
variable {X : Cx} {pins : List (Addr × Obj)} {σ : L2.St} {H : Hp} {s : Shared} {a C d : Addr}
/-- what stood by the way is known from now on -/
theorem adopt (I : Inv X pins σ H s) (e : ExAt s.heap a C d) (na : H a = none) (new : X.s_0.heap.get? a = none) (nL : a ≠ X.env.locals) (nP : ∀ p ∈ X.pn ++ pins, p.1 ≠ a) : Inv X pins σ (upd H a (exq a C d)) s := by
  have other : ∀ {b : Addr} {u : HO}, H b = some u → b ≠ a := fun {b u} q z => by
    rw [z, na] at q
    cases q
  refine ⟨I.ok, I.os, I.bare, ⟨I.base.keep, I.base.slot, fun b o q n hx => ?_, I.base.there, fun b xs q => ?_, fun b o u q => ?_, fun b ps q => ?_⟩, I.loc, I.cell, ?_, fun x c q => ?_, fun p hp => ?_, fun b ob q => ?_, I.len⟩
  · have ne : b ≠ a := fun z => by
      rw [z, new] at q
      cases q
    rw [upd_ne ne]
    exact I.base.free b o q n hx
  · have q2 := I.base.tups b xs q
    rw [upd_ne (other q2)]
    exact q2
  · have q2 := I.base.frzs b o u q
    rw [upd_ne (other q2)]
    exact q2
  · obtain ⟨more, q2⟩ := I.base.tbls b ps q
    exact ⟨more, by rw [upd_ne (other q2)]; exact q2⟩
  · rw [upd_ne (Ne.symm nL)]
    exact I.free
  · have ne : c ≠ a := fun z => by
      obtain ⟨v, oc, hoc, hdc⟩ := I.cell x c q
      obtain ⟨o, vs, e1, _, _, e4⟩ := e.ex
      rw [z, e1] at hoc
      cases hoc
      rw [e4] at hdc
      cases hdc
    rw [upd_ne ne]
    exact I.freeC x c q
  · obtain ⟨q1, q2, q3⟩ := I.pin p hp
    exact ⟨q1, by rw [upd_ne (nP p hp)]; exact q2, q3⟩
  · by_cases z : b = a
    · subst z
      rw [upd_same] at q
      cases q
      exact exq_ok e
    · rw [upd_ne z] at q
      exact (I.hok b ob q).stay (fun c u _ y => y) (fun c hc => by rw [upd_ne (other hc)]; exact hc) fun c xs hc => by rw [upd_ne (other hc)]; exact hc
end
/-- what a clause that keeps the error in slot j wishes of it -/
def wKeep (K : PySem.W.Frag) (c : Value) (i j : Nat) (D : Ends) : WX := fun cls d σ H =>
  ∃ C dd, cls = .ref C ∧ d = some dd ∧ PySem.W.exmOne K cls c = some true ∧ ∀ a, H a = none → D.nx (((σ.set i (some (.ref a))).set j (some (.ref a))).set i none) (upd H a (exq a C dd))
section
variable {X : Cx} {x n y : Str} {c : Value} {i j : Nat} {body : List Stmt} {np py pn pa pos pos' : Pos} {tb : WX → TS}
/-- try: body, except x as n: y = n -/
theorem ps_try_keep (hs : X.stack = X.env :: X.outer) (hf : X.env.frame = some X.env.locals) (hex : X.ex = []) (hN : X.N.Nodup) (hi : X.N[i]? = some n) (hln : X.env.kindOf n = some .local) (hc : Names X x c)
    (hb : ∀ (W : WX) (pn : List (Addr × Obj)) (xe : Value → Shared → Prop), Takes (X.tr pn xe) W → PSs (X.tr pn xe) body (tb W))
    (hsu : ∀ (a : Addr) (oe : Obj) (pn : List (Addr × Obj)), PSs (X.suite a ((a, oe) :: pn)) [.Assign [.Name y py] (.Name n pn') pa] (tAsg (tVar i) (gName j))) :
    PS X (.Try body [.ExceptHandler (some (.Name x np)) (some n) [.Assign [.Name y py] (.Name n pn') pa] pos'] [] [] pos) (fun D σ H => tb (wKeep X.K c i j D) D σ H) := by
  constructor
  intro pins s σ H D I0 run0
  have okX := I0.ok
  have frX : X.A.frames = some (X.env :: X.outer) := okX.frames.trans (congrArg some hs)
  apply wpAny_Try_except
  refine wpAny_mono ((hb (wKeep X.K c i j D) (X.pn ++ pins) _ (fun u s1 air => ?_)).run [] s σ H D (I0.toTry (fun e s₁ => wpAny (model X.prog X.w) X.A (noteFrame e X.env) (fun _ s₂ => wpAny (model X.prog X.w) X.A (setFlight e none) (fun _ s₃ =>
    wpAny (model X.prog X.w) X.A (handleBy e X.env [.ExceptHandler (some (.Name x np)) (some n) [.Assign [.Name y py] (.Name n pn') pa] pos']) (SP X pins D) X.xe s₃) X.xe s₂) X.xe s₁)) run0) (fun fl s1 ended => ?_) (fun _ _ z => z)
  · obtain ⟨a, B, sA, ps2, σ2, H2, cls, dO, rfl, IA, ground, steps, air1, na, eos, bare, C, dd, rfl, rfl, isC, wish⟩ := air
    have IX : Inv X pins σ2 H2 sA := IA.ofTry okX
    have airX : Sky B (X.env :: X.outer) a (Zc (.ref C) (some dd)) X.env.locals s1.heap := hs ▸ air1
    have Bn : B.get? a = none := by
      rcases air1 with q | q | q
      · exact q.2.1
      · exact q.2.1
      · exact q.2.1
    refine Sky.land Zc.steady frX hf airX fun hA flA upA => ?_
    obtain ⟨oA, vA, getA, zA, dataA⟩ := flA.there
    have offFrames : a ∉ frs (X.env :: X.outer) := fun m => by
      obtain ⟨_, oF, eF, notF⟩ := flA.2.2.1.mem m
      rw [getA] at eF
      cases eF
      exact notF _ dataA
    have offL : a ≠ X.env.locals := fun z => offFrames (List.mem_filterMap.mpr ⟨X.env, List.mem_cons_self, by rw [hf, z]⟩)
    have offX : a ∉ X.fs := fun m => by
      obtain ⟨en, m1, m2⟩ := List.mem_filterMap.mp m
      exact offFrames (List.mem_filterMap.mpr ⟨en, List.mem_cons_of_mem _ m1, m2⟩)
    have newA : sA.heap.get? a = none := by
      cases q : sA.heap.get? a with
      | none => rfl
      | some o =>
        rw [ground a o q (hs ▸ offFrames)] at Bn
        cases Bn
    have new0 : X.s_0.heap.get? a = none := by
      cases q : X.s_0.heap.get? a with
      | none => rfl
      | some o =>
        obtain ⟨o2, q2⟩ := IX.base.there a o q (by rw [hex]; simp)
        rw [newA] at q2
        cases q2
    have offP : ∀ p ∈ X.pn ++ pins, p.1 ≠ a := fun p m z => by
      have q := (IA.pin p (List.mem_append_left _ m)).1
      rw [z, newA] at q
      cases q
    have IB : Inv X pins σ2 H2 { s1 with heap := hA } := IX.landed ground flA.1 (steps.trans upA) eos bare
    have IS := IB.suite getA dataA na offL offX
    refine wpAny_handleBy_cons (codeAny_handlers_test ?_) (by intro q; cases q)
    have isT : PySem.W.Looks (model X.prog X.w) hA (typeOf (.ref a)) (.ref C) := fun A Q E s k q => wpAny_typeOf_ref (k _ _ getA) (by rw [zA.1]; exact q)
    have isM := PySem.W.exm_one (M := model X.prog X.w) IB.kIn isT isC
    have readC : ∀ {Q : Value → Shared → Prop} {E : Value → Shared → Prop}, Q c { s1 with heap := hA } → wpAny (model X.prog X.w) (X.A.mark (some (.ref a))) (eval (.Name x np) X.env) Q E { s1 with heap := hA } := fun {Q E} q => by
      obtain ⟨g1, g2, m1 | ⟨m1, m2, m3⟩⟩ := hc
      · exact ld_glob (X := X.suite a ((a, oA) :: (X.pn ++ pins))) IS g1 m1 q g2
      · exact ld_blt (X := X.suite a ((a, oA) :: (X.pn ++ pins))) IS g1 m1 m2 q m3 g2
    refine readC (isM.here (codeAny_handlers_suite_as ?_))
    refine HandSPX.lands_againZ flA fun hB flB upB => ?_
    obtain ⟨oB, vB, getB, zB, dataB⟩ := flB.there
    have IC : Inv X pins σ2 H2 { s1 with heap := hB } := IX.landed ground flB.1 ((steps.trans upA).trans upB) eos bare
    have IT := IC.suite getB dataB na offL offX
    refine store_ok (X := X.suite a ((a, oB) :: (X.pn ++ pins))) (v := .ref a) IT hN hi (.inl hln) rfl (fun s5 I5 => ?_) (.inr hln)
    have il : i < σ2.length := by rw [IT.len]; exact (List.getElem?_eq_some_iff.mp hi).1
    refine wpAny_mono ((hsu a oB (X.pn ++ pins)).run [] s5 (σ2.set i (some (.ref a))) H2 { nx := fun σ' H' => H' = H2 ∧ D.nx (σ'.set i none) (upd H2 a (exq a C dd)), rt := fun _ _ => False, bk := fun _ _ => False, ct := fun _ _ => False } I5 ⟨.ref a, List.getElem?_set_self il, rfl, wish a na⟩) (fun f6 s6 e6 => ?_) (fun _ _ z => z.elim)
    cases f6 with
    | next =>
      obtain ⟨σ6, H6, I6, rfl, z6⟩ := e6
      refine gone_ok (X := X.suite a ((a, oB) :: (X.pn ++ pins))) I6 hN hi hln fun s7 I7 => ?_
      have p7 := (I7.pin (a, oB) (List.mem_append_left _ List.mem_cons_self)).1
      exact ⟨_, _, adopt (I7.unsuite okX) ⟨⟨oB, vB, p7, zB.1, zB.2, dataB⟩⟩ na new0 offL offP, z6⟩
    | brk =>
      obtain ⟨_, _, _, z6⟩ := e6
      exact z6.elim
    | cont =>
      obtain ⟨_, _, _, z6⟩ := e6
      exact z6.elim
    | ret u =>
      obtain ⟨_, _, _, _, _, z6⟩ := e6
      exact z6.elim
  · cases fl with
    | next =>
      obtain ⟨σ1, H1, I1, z⟩ := ended
      exact wpAny_execs_nil ⟨σ1, H1, I1.ofTry okX, z⟩
    | brk =>
      obtain ⟨σ1, H1, I1, z⟩ := ended
      exact ⟨σ1, H1, I1.ofTry okX, z⟩
    | cont =>
      obtain ⟨σ1, H1, I1, z⟩ := ended
      exact ⟨σ1, H1, I1.ofTry okX, z⟩
    | ret u =>
      obtain ⟨v, σ1, H1, I1, r, z⟩ := ended
      exact ⟨v, σ1, H1, I1.ofTry okX, r, z⟩
end
end AP
set_option maxHeartbeats 4000000
/-! Promises of defs that may raise. -/
namespace AP
open PySem PySem.Spec PyProof.Rows L2 Evl
/-- a promise: err tells the class and the value of the error that is raised, if one is -/
structure ConX (ι β : Type) [Py β] extends Con ι β where
  err : ι → Option (Addr × V)
def ConX.spX {ι β : Type} [Py β] (C : ConX ι β) : Sp := fun vs H Q E => ∃ i G z B, Alls B (C.args i) vs ∧ C.pre i G ∧ At G z B H ∧ z + C.c i ≤ 2 ^ 50 ∧
  (C.err i = none → ∀ y w z' B' H', C.post i y → Nx G (C.c i) z B H z' B' H' → Py.is y w B' → Q w H') ∧
  ∀ e, C.err i = some e → ∀ d z' B' H', Nx G (C.c i) z B H z' B' H' → B' d = some (.xd [("value", e.2)]) → E (.ref e.1) (some d) H'
/-- what an expression comes to that may raise -/
def TyX (G : Option Addr) (c : Nat) (te : TE) (Γ : Ctx) {α : Type} [Py α] (A : α → Prop) (Er : Addr × V → Prop) (E : XK) : Prop :=
  ∀ z B σ H, Slo B σ Γ → At G z B H → z + c ≤ 2 ^ 50 → ∀ Q : VK, (∀ e, Er e → ∀ d z' B' H', Nx G c z B H z' B' H' → B' d = some (.xd [("value", e.2)]) → E (.ref e.1) (some d) H') →
    (∀ x v z' B' H', A x → Nx G c z B H z' B' H' → Py.is x v B' → Q v H') → te σ H Q
section
variable {K : PySem.W.Frag} {G : Option Addr} {c c0 c1 c2 c3 : Nat} {te ta tb tx : TE} {tt : TT} {Γ : Ctx} {ι α β γ : Type} [Py α] [Py β] [Py γ] {A : α → Prop} {A1 : β → Prop} {Ps : List VP} {tr : TA} {B B' H B0 H0 : Hp} {v w : V}
  {σ : L2.St} {z z0 : Int} {D : Ends} {t t1 t2 tz : TS} {E : XK} {Er : Addr × V → Prop}
theorem ty_callX {C : ConX ι β} (i : ι) (h : TyA G c1 tr Γ (C.args i)) (p : C.pre i G) : TyX G (c1 + C.c i) (tCall C.spX [] E tr) Γ (fun x => C.err i = none ∧ C.post i x) (fun e => C.err i = some e) E := fun z B σ H en s hz Q qE q => by
  refine h z B σ H en s (by omega) _ fun vs z1 B1 H1 al n1 => ?_
  refine ⟨i, G, z1, B1, by rw [List.append_nil]; exact al, p, n1.at_, by have := n1.hi; omega, fun e0 y w z' B' H' py n2 hw => ?_, fun e he d z' B' H' n2 hd => ?_⟩
  · exact q y w z' B' H' ⟨e0, py⟩ (n1.trans s n2) hw
  · exact qE e he d z' B' H' (n1.trans s n2) hd
theorem q_dropX (s0 : At G z0 B0 H0) (n : Nx G c0 z0 B0 H0 z B H) (en : Slo B σ Γ) (h : TyX G c te Γ A Er E) (hz : z0 + (c0 + c) ≤ 2 ^ 50)
    (kE : ∀ e, Er e → ∀ d z' B' H', Nx G (c0 + c) z0 B0 H0 z' B' H' → B' d = some (.xd [("value", e.2)]) → E (.ref e.1) (some d) H')
    (k : ∀ x z' B' H', A x → Nx G c z B H z' B' H' → Nx G (c0 + c) z0 B0 H0 z' B' H' → Slo B' σ Γ → D.nx σ H') : tDrop te D σ H :=
  h z B σ H en n.at_ (by have := n.hi; omega) _ (fun e he d z' B' H' n' hd => kE e he d z' B' H' (n.trans s0 n') hd) fun x v z' B' H' ax n' hv => k x z' B' H' ax n' (n.trans s0 n') (en.up n'.up)
theorem q_dropXS (s0 : At G z0 B0 H0) (n : Nx G c0 z0 B0 H0 z B H) (en : Slo B σ Γ) (h : TyX G c te Γ A Er E) (hz : z0 + (c0 + c) ≤ 2 ^ 50)
    (kE : ∀ e, Er e → ∀ d z' B' H', Nx G (c0 + c) z0 B0 H0 z' B' H' → B' d = some (.xd [("value", e.2)]) → E (.ref e.1) (some d) H')
    (k : ∀ x z' B' H', A x → Nx G c z B H z' B' H' → Nx G (c0 + c) z0 B0 H0 z' B' H' → Slo B' σ Γ → tz D σ H') : tSeq (tDrop te) tz D σ H :=
  q_dropX (D := { D with nx := tz D }) s0 n en h hz kE k
theorem q_retX (s0 : At G z0 B0 H0) (n : Nx G c0 z0 B0 H0 z B H) (en : Slo B σ Γ) (h : TyX G c te Γ A Er E) (hz : z0 + (c0 + c) ≤ 2 ^ 50)
    (kE : ∀ e, Er e → ∀ d z' B' H', Nx G (c0 + c) z0 B0 H0 z' B' H' → B' d = some (.xd [("value", e.2)]) → E (.ref e.1) (some d) H')
    (k : ∀ x v z' B' H', A x → Nx G (c0 + c) z0 B0 H0 z' B' H' → Py.is x v B' → D.rt v H') : tRet te D σ H :=
  h z B σ H en n.at_ (by have := n.hi; omega) _ (fun e he d z' B' H' n' hd => kE e he d z' B' H' (n.trans s0 n') hd) fun x v z' B' H' ax n' hv => k x v z' B' H' ax (n.trans s0 n') hv
/-- raise C(e) -/
def tRaise (C : Addr) (te : TE) (E : XK) : TS := fun _ σ H => tMkO C (spErr C) [] (tCons te tNil) σ H fun cls d H' => E cls d H'
theorem q_raise {C : Addr} (s0 : At G z0 B0 H0) (n : Nx G c0 z0 B0 H0 z B H) (en : Slo B σ Γ) (h : Ty G c te Γ A) (hz : z0 + (c0 + c) ≤ 2 ^ 50)
    (kE : ∀ x v d z' B' H', A x → Py.is x v B' → Nx G (c0 + c) z0 B0 H0 z' B' H' → B' d = some (.xd [("value", v)]) → E (.ref C) (some d) H') : tRaise C te E D σ H := by
  refine h z B σ H en n.at_ (by have := n.hi; omega) _ fun x v z1 B1 H1 ax n1 hv => ?_
  refine ⟨by show 1 ≤ 1000; decide, fun a na => ⟨a, v, rfl, upd_same, fun d nd ne => ⟨rfl, d, [("value", v)], upd_same, by rw [upd_ne ne]; exact upd_same, ?_, ?_⟩⟩⟩
  · rw [upd_ne ne] at nd
    exact nd
  · have nd' : H1 d = none := by
      rw [upd_ne ne] at nd
      exact nd
    have eH : upd (del (upd (upd (upd H1 a (exo a C none)) d (exd d [("value", v)])) a (exo a C (some d))) a) d (.xd [("value", v)]) = upd H1 d (.xd [("value", v)]) := by
      funext b
      by_cases hb : b = d
      · rw [hb, upd_same, upd_same]
      · rw [upd_ne hb, upd_ne hb]
        by_cases ha : b = a
        · rw [ha, del_same, na]
        · rw [del_ne ha, upd_ne ha, upd_ne hb, upd_ne ha]
    rw [eH]
    have n2 := Nx.alloc (o := .xd [("value", v)]) n1.at_ nd'
    exact kE x v d z1 _ _ ax (Py.st _ _ _ _ n2.up hv) ((n.trans s0 (n1.trans n.at_ n2)).le (by omega)) upd_same
/-! ### values of any kind, known by what stands for them -/
theorem Ty.du {x : DU} (h : Ty G c te Γ (· = x)) : Ty G c te Γ (· = x.d) := fun z B σ H en s hz Q q => h z B σ H en s hz Q fun y v z' B' H' ey n hv => q x.d v z' B' H' rfl n (by subst ey; exact hv.2)
theorem Ty.duInt {x : DU} {m : Int} (h : Ty G c te Γ (· = x)) (e : x.d = .int m) : Ty G c te Γ (· = m) := fun z B σ H en s hz Q q => h z B σ H en s hz Q fun y v z' B' H' ey n hv => q m v z' B' H' rfl n (by
  subst ey
  have hv := hv.2
  rw [e] at hv
  exact int_dat hv)
theorem dats_each {B : Hp} : ∀ {ns : List Int} {vs : List V}, DatVs B (ns.map Dat.int) vs → Each B ns vs
  | [], _, h => by cases h; exact .nil
  | n :: ns, _, h => by
    cases h with
    | cons a b => exact .cons (int_dat a) (dats_each b)
theorem Ty.duInts {x : DU} {ns : List Int} (h : Ty G c te Γ (· = x)) (e : x.d = .lst (ns.map .int)) : Ty G c te Γ (· = ns) := fun z B σ H en s hz Q q => h z B σ H en s hz Q fun y v z' B' H' ey n hv => q ns v z' B' H' rfl n (by
  subst ey
  have hv := hv.2
  rw [e] at hv
  obtain ⟨p, vs, e1, e2, e3⟩ := lst_dat hv
  exact ⟨p, vs, e1, e2, dats_each e3.dats⟩)
end
/-! ### defs, calls -/
section
variable {P : Program} {w : World} {K : PySem.W.Frag} {mg : Str → Option Value} {base : Heap} {ι β : Type} [Py β]
theorem con_goX {x qual : Str} {st : Stmt} {f : Addr} {fd : FuncData} {N ps : List Str} {k : Nat}
    (F : Df K x qual st [] f fd) (S : FnScope N ps (defScope st)) (C : ConX ι β) (hl : ∀ i, (C.args i).length = ps.length)
    (body : ∀ (cdv : Value) (A : Around) (outer : List PySem.Env) (s : Shared) (H : Hp) (E : XK) (i : ι) (G : Option Addr) (z0 : Int) (B0 : Hp),
      Room k (A.deeper (envOfC qual (defScope st) s.heap.objs.size f cdv)) → C.pre i G → At G z0 B0 H → z0 + C.c i ≤ 2 ^ 50 →
      Takes (cxOf (L2.CX P w) P w K mg base N qual (defScope st) f cdv A outer s H E) (fun cls d _ H => E cls d H) →
        ∃ t, PSs (cxOf (L2.CX P w) P w K mg base N qual (defScope st) f cdv A outer s H E) (defBody st) t ∧
          ∀ (σ : L2.St) (Q : VK), Slo B0 σ (ctx0 N.length (C.args i)) →
            (C.err i = none → ∀ y w z' B' H', C.post i y → Nx G (C.c i) z0 B0 H z' B' H' → Py.is y w B' → Q w H') →
            (∀ e, C.err i = some e → ∀ d z' B' H', Nx G (C.c i) z0 B0 H z' B' H' → B' d = some (.xd [("value", e.2)]) → E (.ref e.1) (some d) H') → t { nx := fun _ H' => Q .non H', rt := Q } σ H) :
    FnOk P w K mg base (L2.CX P w) (k + 1) f fd ps C.spX := by
  refine FunD.ok F S (fun vs H Q E h => ?_) (fun cdv A outer s H vs Q E hr h => ?_)
  · obtain ⟨i, _, _, _, al, _⟩ := h
    rw [al.len]
    exact hl i
  · obtain ⟨i, G, z0, B0, al, hp, at0, hz, q, qE⟩ := h
    obtain ⟨t, ht, run⟩ := body cdv A outer s H E i G z0 B0 hr hp at0 hz (takes_of rfl rfl rfl rfl)
    exact ⟨t, ht, run _ Q (Slo.start al) q qE⟩
/-- a def of the text that may raise, and keeps its promise -/
structure FoX (P : Program) (w : World) (K : PySem.W.Frag) (mg : Str → Option Value) (base : Heap) (x : Str) (k : Nat) (ps : List Str) (sp : Sp) : Prop where
  ex : ∃ (f : Addr) (fd : FuncData), mg x = some (.ref f) ∧ PySem.W.keepIn K (.ref f) = true ∧ Binds K fd ps [] ∧
    (∀ (s : Shared) (ws : List Value), K.In s.heap → ws.length = ps.length → BindsTo s fd ⟨[], ps.reverse.zip ws⟩ (ps.zip ws.reverse)) ∧ FnOk P w K mg base (L2.CX P w) k f fd ps sp
theorem FoX.mk' {x qual : Str} {st : Stmt} {f : Addr} {fd : FuncData} {ps : List Str} {k : Nat} {sp : Sp} (F : Df K x qual st [] f fd) (m : mg x = some (.ref f)) (G : FnOk P w K mg base (L2.CX P w) k f fd ps sp)
    (b : ∀ (kV doc pm : Value) (an : Option Addr) (cdv ct : Value) (us : List Value), us.length = ps.length → bindArgs (PySem.W.fnOf x qual (defArgs st) (defBody st) (defScope st) .none kV doc pm an cdv ct) ⟨us, []⟩ = pure (ps.zip us))
    (bk : ∀ (kV doc pm : Value) (an : Option Addr) (cdv ct : Value) (us : List Value), us.length = ps.length → bindArgs (PySem.W.fnOf x qual (defArgs st) (defBody st) (defScope st) .none kV doc pm an cdv ct) ⟨[], ps.reverse.zip us⟩ = pure (ps.zip us.reverse)) :
    FoX P w K mg base x k ps sp := by
  refine ⟨f, fd, m, F.kp, FunD.bindsN F b, fun s ws _ hl => ?_, G⟩
  obtain ⟨oc, od, dV, kV, doc, pm, an, cdv, ct, osl, rfl, lk, hcd, hD, hK⟩ := F.ex
  rcases hD with ⟨_, rfl⟩ | ⟨e, _⟩
  · exact .of_eq (bk kV doc pm an cdv ct ws hl)
  · exact absurd rfl e
/-- an error's class: all that is wanted to raise it -/
structure Mk (P : Program) (w : World) (K : PySem.W.Frag) (mg : Str → Option Value) (base : Heap) (x : Str) (C : Addr) : Prop where
  ex : ∃ (fI : Addr) (fd : FuncData), ErrC K C fI ∧ Binds K fd ["self", "value"] [] ∧ FnOk P w K mg base CX0 1 fI fd ["self", "value"] (spErr C) ∧ mg x = some (.ref C)
end
section
variable {X : Cx} {k : Nat} {ps : List Str} {sp : Sp} {x : Str} {p pos : Pos} {e : Expr} {es : List Expr} {t : TA} {W : WX} {E : XK} {C : Addr} {te : TE}
theorem pe_foX (F : FoX X.prog X.w X.K X.mg X.base x k ps sp) (hr : Room k X.A) (tk : Takes X (fun cls d _ H => E cls d H)) (hg : Gl X x) (ha : PA X (e :: es) t) (hdb : (x == ("__debug__" : Str)) = false := by decide)
    (he : starEach (e :: es) X.env = (false, eval e X.env) :: starEach es X.env := by rfl)
    (hpl : (backTo pos (starEach es X.env)).any (·.1) = false := by rfl) :
    PE X (.Call (.Name x p) (e :: es) [] pos) (tCall sp [] E t) := by
  obtain ⟨f, fd, m, kp, b, _, G⟩ := F.ex
  exact pe_call G hr hg m kp b .nil (passes_call tk fun _ _ _ _ h => h) ha hdb he hpl
theorem ps_raiseX (M : Mk X.prog X.w X.K X.mg X.base x C) (hc : X.calm = true) (hr : Room 2 X.A) (tk : Takes X (fun cls d _ H => E cls d H)) (hg : Gl X x) (ha : PE X e te) (hdb : (x == ("__debug__" : Str)) = false := by decide)
    (he : starEach [e] X.env = (false, eval e X.env) :: starEach [] X.env := by rfl) (hpl : (backTo p (starEach [] X.env)).any (·.1) = false := by rfl) {p0 : Pos} :
    PS X (.Raise (some (.Call (.Name x p0) [e] [] p)) none pos) (tRaise C te E) := by
  obtain ⟨fI, fd, T, hb, F, hm⟩ := M.ex
  exact ps_raise hc tk (pmk_oex T.o T.iC T.tI F hr hb .nil pass0 hg hm (pa_cons ha pa_nil he) hdb he hpl)
end
end AP
set_option maxHeartbeats 4000000
/-! A caught error as a value: its class, its field. -/
namespace AP
open PySem PySem.Spec PyProof.Rows L2 Evl
structure ErrV where
  C : Addr
  x : DU
instance : Py ErrV := ⟨fun e v B => ∃ a d, v = .ref a ∧ B a = some (exq a e.C d) ∧ B d = some (.xd [("value", e.x.u)]) ∧ Py.is e.x.d e.x.u B, fun e _ _ _ up ⟨a, d, h1, h2, h3, h4⟩ => ⟨a, d, h1, up _ _ h2, up _ _ h3, Py.st _ _ _ _ up h4⟩⟩
def rIsQ (K : PySem.W.Frag) : List V → Hp → VK → Prop := fun xs H Q => ∃ (a C d : Addr) (c : V) (cv : Value) (b : Bool) (fs : List (Str × V)), xs = [.ref a, c] ∧ ErrK K C ∧
  H a = some (exq a C d) ∧ H d = some (.xd fs) ∧ (∀ u, RelV c u → u = cv) ∧ PySem.W.kitOne K (.ref C) cv = some b ∧ Q (.bl b) H
theorem xd_at {P : Program} {w : World} {H : Hp} {h : Heap} {d : Addr} {fs : List (Str × V)} (hok : HOk P w H h) (e : H d = some (.xd fs)) : ∃ mA, h.Ns1 d mA ∧ ∀ f, RelO (fs.lookup f) (mA f) := by
  have x : ObjOk P w H h d (.xd fs) := hok d _ e
  exact x
section
variable {X : Cx} {e : Expr} {te : TE} {f : Str} {pos : Pos}
theorem inst_of {P : Program} {w : World} {H : Hp} {h : Heap} {a C d : Addr} {oD : Obj} (hok : HOk P w H h) (h1 : H a = some (exq a C d)) (hD : h.get? d = some oD) : ∃ o, PySem.W.InstAt h a o C (some oD) := by
  obtain ⟨o, vs, g, hc, hd, hv⟩ := (exq_at hok h1).ex
  exact ⟨o, g, hc, by unfold PySem.W.notCls; rw [hv] <;> rfl, by rw [hd]; exact hD⟩
theorem call_isQ : CallR X (.builtin "isinstance") (rIsQ X.K) := by
  intro pins s σ H xs us Q I r want
  obtain ⟨a, C, d, c, cv, b, fs, rfl, G, ha, hd, hcv, hk, q⟩ := want
  obtain ⟨u1, u2, rfl, r1, r2⟩ := vals2 r
  cases r1
  cases hcv _ r2
  obtain ⟨mA, hns, rel⟩ := xd_at I.hok hd
  obtain ⟨oD, _, _, hoD, _, _⟩ := hns.count (within_of rel)
  obtain ⟨o, inst⟩ := inst_of I.hok ha hoD
  exact PySem.W.kia_one (PySem.W.kitx_exc (od := some oD) G.cl G.ga G.gt G.sub G.ha G.hn G.tk G.hm) I.kIn inst hk (fun z => nomatch z) fun tk => ⟨.bl b, H, I.tok tk, rfl, q⟩
def tErrQ (K : PySem.W.Frag) (f : Str) (te : TE) : TE := fun σ H Q => te σ H fun x H1 => ∃ (a C d : Addr) (fs : List (Str × V)) (v : V), x = .ref a ∧ ErrK K C ∧ PySem.W.hasDictIn K C = true ∧
  PySem.W.findIn K (.ref C) f = some none ∧ H1 a = some (exq a C d) ∧ H1 d = some (.xd fs) ∧ fs.lookup f = some v ∧ Q v H1
theorem pe_errQ (he : PE X e te) (hb : attributeBase e f X.env (eval e X.env) = eval e X.env := by rfl) : PE X (.Attribute e f pos) (tErrQ X.K f te) := by
  constructor
  intro pins s σ H Q I want
  refine attr_of hb (thn (he.run pins s σ H _ I want) fun u s1 got => ?_)
  obtain ⟨x, H1, I1, rx, a, C, d, fs, v, rfl, G, dict, no, ha, hd, l, q⟩ := got
  cases rx
  obtain ⟨mA, hns, rel⟩ := xd_at I1.hok hd
  obtain ⟨oD, hoD, look⟩ := lookIn_ns hns
  obtain ⟨y, hy, ry⟩ := RelO.some_of (v := v) (o := mA f) (by rw [← l]; exact rel f)
  obtain ⟨o, inst⟩ := inst_of I1.hok ha hoD
  exact HandSPX.exc_get I1.kIn inst G.ga G.gt G.sub (PySem.W.findObj_own dict no rfl (by rw [look, hy])) (handed_of ry) ⟨v, H1, I1.tok _, ry, q⟩
end
/-- what is known of an error's class -/
structure ErK3 (K : PySem.W.Frag) (C : Addr) : Prop where
  k : ErrK K C
  dict : PySem.W.hasDictIn K C = true
  no : PySem.W.findIn K (.ref C) "value" = some none
section
variable {K : PySem.W.Frag} {G : Option Addr} {c c0 c1 c2 c3 : Nat} {te ta tb tx : TE} {tt : TT} {Γ : Ctx} {ι α β γ : Type} [Py α] [Py β] [Py γ] {A : ErrV → Prop} {Ps : List VP} {tr : TA} {B B' H B0 H0 : Hp} {v w : V}
  {σ : L2.St} {z z0 : Int} {D : Ends} {t t1 t2 tz : TS} {E : XK}
theorem ty_isQ {cl : V} {cv : Value} {b : Bool} (h : Ty G c te Γ A) (hc : ∀ u, RelV cl u → u = cv) (hA : ∀ e, A e → ErK3 K e.C ∧ PySem.W.kitOne K (.ref e.C) cv = some b) : Ty G c (tCB (rIsQ K) (tCons te (tCons (tC cl) tNil))) Γ (· = b) := fun z B σ H en s hz Q q => by
  refine h z B σ H en s hz _ fun x v z' B' H' ax n hv => ?_
  obtain ⟨k, kb⟩ := hA x ax
  obtain ⟨a, d, rfl, ha, hd, _⟩ := hv
  exact ⟨a, x.C, d, cl, cv, b, _, rfl, k.k, n.at_.ex _ _ ha, n.at_.ex _ _ hd, hc, kb, q b _ z' B' H' rfl n rfl⟩
theorem ty_valQ {y : Dat} (h : Ty G c te Γ A) (hA : ∀ e, A e → ErK3 K e.C ∧ e.x.d = y) : Ty G c (tErrQ K "value" te) Γ (· = y) := fun z B σ H en s hz Q q => by
  refine h z B σ H en s hz _ fun x v z' B' H' ax n hv => ?_
  obtain ⟨k, ey⟩ := hA x ax
  obtain ⟨a, d, rfl, ha, hd, hu⟩ := hv
  exact ⟨a, x.C, d, _, x.x.u, rfl, k.k, k.dict, k.no, n.at_.ex _ _ ha, n.at_.ex _ _ hd, by simp [List.lookup], q y _ z' B' H' rfl n (ey ▸ hu)⟩
/-- try: f(..), except X as n: y = n, where it raises for sure -/
def tTry (K : PySem.W.Frag) (c : Value) (i j : Nat) (tb : WX → TS) : TS := fun D σ H => tb (wKeep K c i j D) D σ H
theorem q_tryXS {C : ConX ι β} {cc : Value} {ii jj : Nat} {Cl : Addr} {y : Dat} (s0 : At G z0 B0 H0) (n : Nx G c0 z0 B0 H0 z B H) (en : Slo B σ Γ) (h : TyA G c1 tr Γ Ps)
    (k : ∀ vs B, Alls B Ps vs → ∃ i u, Alls B (C.args i) vs ∧ C.pre i G ∧ C.c i ≤ c2 ∧ C.err i = some (Cl, u) ∧ Py.is y u B) (hx : PySem.W.exmOne K (.ref Cl) cc = some true) (hz : z0 + (c0 + (c1 + c2)) ≤ 2 ^ 50)
    (k2 : ∀ (x : ErrV) z' B' H' σ', x.C = Cl ∧ x.x.d = y → Nx G (c1 + c2) z B H z' B' H' → Nx G (c0 + (c1 + c2)) z0 B0 H0 z' B' H' → Slo B' σ' (((Γ.set ii (some (Py.is x))).set jj (some (Py.is x))).set ii none) → tz D σ' H') :
    tSeq (tTry K cc ii jj fun W => tDrop (tCallSD C.spX [] (fun σ cls d H => W cls d σ H) tr)) tz D σ H := by
  refine h z B σ H en n.at_ (by have := n.hi; omega) _ fun vs z1 B1 H1 al n1 => ?_
  obtain ⟨i, u, h1, h2, h3, h4, h5⟩ := k vs B1 al
  refine ⟨i, G, z1, B1, by rw [List.append_nil]; exact h1, h2, n1.at_, by have := n.hi; have := n1.hi; omega, fun e0 => (by rw [h4] at e0; cases e0), fun e he d z2 B2 H2 n2 hd => ?_⟩
  rw [h4] at he
  cases he
  refine ⟨Cl, d, rfl, rfl, hx, fun a na => ?_⟩
  have n3 := Nx.alloc (o := exq a Cl d) n2.at_ na
  have nn := ((n1.trans n.at_ (n2.le h3)).trans n.at_ n3)
  have ht : Py.is (ErrV.mk Cl ⟨y, u⟩) (.ref a) (upd B2 a (exq a Cl d)) := ⟨a, d, rfl, upd_same, n3.up _ _ hd, Py.st y u _ _ (n2.up.trans n3.up) h5⟩
  have hσ := ((((en.up nn.up).put (i := ii) ht).put (i := jj) ht).none (i := ii) (o := Option.none))
  exact k2 ⟨Cl, ⟨y, u⟩⟩ z2 _ _ _ ⟨rfl, rfl⟩ (nn.le (by omega)) ((n.trans s0 nn).le (by omega)) hσ
end
section
variable {X : Cx} {k : Nat} {ps : List Str} {sp : Sp} {x : Str} {p pos : Pos} {e : Expr} {es : List Expr} {t : TA} {W : WX}
theorem pe_foXS (F : FoX X.prog X.w X.K X.mg X.base x k ps sp) (hr : Room k X.A) (tk : Takes X W) (hg : Gl X x) (ha : PA X (e :: es) t) (hdb : (x == ("__debug__" : Str)) = false := by decide)
    (he : starEach (e :: es) X.env = (false, eval e X.env) :: starEach es X.env := by rfl)
    (hpl : (backTo pos (starEach es X.env)).any (·.1) = false := by rfl) :
    PE X (.Call (.Name x p) (e :: es) [] pos) (tCallSD sp [] (fun σ cls d H => W cls d σ H) t) := by
  obtain ⟨f, fd, m, kp, b, _, G⟩ := F.ex
  exact pe_callSD G hr hg m kp b .nil (fun σ => passAt tk σ) ha hdb he hpl
end
end AP
set_option maxHeartbeats 4000000
/-! What is demanded of arguments, and the error of the first one that is wrong. -/
namespace AP
open PySem PySem.Spec PyProof.Rows L2 Evl
/-- no error if right, else the error of the class of this name with the value -/
def due (cl : Str → Addr) (right : Bool) (nm : Str) (x : DU) : Option (Addr × V) := if right = true then none else some (cl nm, x.u)
theorem due_none {cl : Str → Addr} {b : Bool} {nm : Str} {x : DU} (h : due cl b nm x = none) : b = true := by
  unfold due at h
  split at h
  · assumption
  · cases h
theorem due_yes {cl : Str → Addr} {b : Bool} {nm : Str} {x : DU} (h : b = true) : due cl b nm x = none := by unfold due; rw [if_pos h]
theorem due_no {cl : Str → Addr} {b : Bool} {nm : Str} {x : DU} (h : b = false) : due cl b nm x = some (cl nm, x.u) := by unfold due; rw [if_neg (by rw [h]; decide)]
theorem bnot_t {b : Bool} (h : (!b) = true) : b = false := by cases b <;> simp_all
theorem bnot_f {b : Bool} (h : (!b) = false) : b = true := by cases b <;> simp_all
/-- the first error of two -/
def thenE (a b : Option (Addr × V)) : Option (Addr × V) := match a with
  | some e => some e
  | none => b
theorem thenE_1 {a b : Option (Addr × V)} {e : Addr × V} (h : a = some e) : thenE a b = some e := by rw [h]; rfl
theorem thenE_2 {a b : Option (Addr × V)} (h : a = none) : thenE a b = b := by rw [h]; rfl
def wE (cl : Str → Addr) (w : DU) := due cl (w.d.within 1 64) "InvalidWidth" w
def pE (cl : Str → Addr) (w : Int) (p : DU) := due cl (placesB w p.d) "InvalidPlaces" p
theorem within_ok {d : Dat} {lo hi : Int} (h : d.within lo hi = true) : ∃ n, d = .int n ∧ lo ≤ n ∧ n ≤ hi := by
  rw [Dat.within_eq] at h
  simp only [Bool.and_eq_true, decide_eq_true_eq] at h
  obtain ⟨h1, h2, h3⟩ := h
  cases d with
  | int n => exact ⟨n, rfl, h2, h3⟩
  | _ => cases h1
theorem wE_ok {cl : Str → Addr} {w : DU} (h : wE cl w = none) : ∃ n, w.d = .int n ∧ wOk n := within_ok (due_none h)
theorem words_ints {w : Int} : ∀ {ds : List Dat}, ds.all (Dat.word w) = true → ∃ ns : List Int, ds = ns.map Dat.int
  | [], _ => ⟨[], rfl⟩
  | d :: ds, h => by
    rw [List.all_cons, Bool.and_eq_true] at h
    obtain ⟨n, e, _⟩ := within_ok (show d.within _ _ = true from h.1)
    obtain ⟨ns, es⟩ := words_ints h.2
    exact ⟨n :: ns, by rw [e, es]; rfl⟩
theorem places_ok {w : Int} {d : Dat} (h : placesB w d = true) (sm : d.small) : ∃ ns, d = .lst (ns.map .int) ∧ Places w ns := by
  cases d with
  | lst ds =>
    have h' : (ds.all (Dat.word w) && (decide (0 < ds.length) && climbs (ds.map Dat.toI))) = true := h
    rw [Bool.and_eq_true] at h'
    obtain ⟨ns, rfl⟩ := words_ints h'.1
    exact ⟨ns, rfl, h, by have sm : (ns.map Dat.int).length ≤ 30000 := sm; rw [List.length_map] at sm; exact sm⟩
  | _ => cases h
theorem pE_ok {cl : Str → Addr} {w : Int} {p : DU} (h : pE cl w p = none) (sm : p.d.small) : ∃ ns, p.d = .lst (ns.map .int) ∧ Places w ns := places_ok (due_none h) sm
/-- the classes of errors that a text has -/
structure ErrF (K : PySem.W.Frag) (mg : Str → Option Value) (cl : Str → Addr) (ns : List Str) : Prop where
  m : ∀ x ∈ ns, mg x = some (.ref (cl x))
  b : mg "CodeError" = some (.ref (cl "CodeError"))
  k : ∀ x ∈ ns, ErK3 K (cl x)
  kit : ∀ x ∈ ns, ∀ y ∈ ns, PySem.W.kitOne K (.ref (cl x)) (.ref (cl y)) = some (decide (y = x))
  kitV : ∀ x ∈ ns, PySem.W.kitOne K (.ref (cl x)) (.type "ValueError") = some true
  exm : ∀ x ∈ ns, PySem.W.exmOne K (.ref (cl x)) (.ref (cl "CodeError")) = some true
end AP
set_option maxHeartbeats 4000000
/-! xs < ys of lists of ints. -/
namespace AP
open PySem PySem.Spec PyProof.Rows L2 Evl PySem.W
def intsD (ns : List Int) : List PyData := ns.map PyData.int
section
variable {K : PySem.W.Frag} {G : Option Addr} {c1 c2 : Nat} {ta tb : TE} {Γ : Ctx}
theorem ty_notB {a b : Bool} (ha : Ty G c1 ta Γ (· = a)) (hb : Ty G c2 tb Γ (· = b)) : Ty G (c1 + c2) (tOp rNotB ta tb) Γ (· = !decide (a = b)) :=
  ty_op ha hb fun x y v w B ex ey hv hw z B' H e s Q q => ⟨x, y, hv, hw, q _ _ z B' H (by rw [ex, ey]) (.refl s) rfl⟩
end
end AP
set_option maxHeartbeats 4000000
/-! [xs.pop(random(g, len(xs))) for t in range(n)]: some of a list, each place once. -/
namespace AP
open PySem PySem.Spec PyProof.Rows L2 Evl
end AP
set_option maxHeartbeats 4000000
/-! Defs as values; lists told new that are read and later changed; numbers of so many bits, of any value. -/
namespace AP
open PySem PySem.Spec PyProof.Rows L2 Evl
/-! ### defs as values -/
structure FnV where
  f : Addr
instance : Py FnV := ⟨fun r v _ => v = .ref r.f, fun _ _ _ _ _ h => h⟩
structure HeldX (P : Program) (w : World) (K : PySem.W.Frag) (mg : Str → Option Value) (base : Heap) (k : Nat) (f : Addr) (sp : Sp) : Prop where
  ex : ∃ (fd : FuncData) (ps : List Str), PySem.W.keepIn K (.ref f) = true ∧ Binds K fd ps [] ∧ FnOk P w K mg base (L2.CX P w) k f fd ps sp
theorem FoX.held {P : Program} {w : World} {K : PySem.W.Frag} {mg : Str → Option Value} {base : Heap} {x : Str} {k : Nat} {ps : List Str} {sp : Sp} (F : FoX P w K mg base x k ps sp) : ∃ f, mg x = some (.ref f) ∧ HeldX P w K mg base k f sp := by
  obtain ⟨f, fd, m, kp, b, _, G⟩ := F.ex
  exact ⟨f, m, fd, ps, kp, b, G⟩
section
variable {K : PySem.W.Frag} {G : Option Addr} {c c0 c1 c2 c3 : Nat} {te ta tb tx : TE} {tt : TT} {Γ : Ctx} {ι α β γ : Type} [Py α] [Py β] [Py γ] {A : α → Prop} {Ps : List VP} {tr : TA} {B B' H B0 H0 : Hp} {v w : V}
  {σ : L2.St} {z z0 : Int} {D : Ends} {t t1 t2 tz : TS} {E : XK}
theorem ty_fn {f : Addr} : Ty G 0 (tC (.ref f)) Γ (· = FnV.mk f) := fun z B σ H en s hz Q q => q _ _ z B H rfl (.refl s) rfl
/-! ### what stood before some list came -/
structure OldV (B1 : Hp) (α : Type) where
  v : α
instance {B1 : Hp} {α : Type} [Py α] : Py (OldV B1 α) := ⟨fun x w B => Py.is x.v w B1 ∧ Py.is x.v w B, fun x w B B' e h => ⟨h.1, Py.st x.v w B B' e h.2⟩⟩
theorem Ty.old {B1 : Hp} {x : α} (h : Ty G c te Γ (· = (OldV.mk x : OldV B1 α))) : Ty G c te Γ (· = x) := fun z B σ H en s hz Q q => h z B σ H en s hz Q fun y v z' B' H' ey n hv => q x v z' B' H' rfl n (by subst ey; exact hv.2)
inductive Age (B1 : Hp) : Ctx → Ctx → Prop
  | nil : Age B1 [] []
  | cons {α : Type} [Py α] (x : α) {Γ Γ' : Ctx} : Age B1 Γ Γ' → Age B1 (some (Py.is x) :: Γ) (some (Py.is (OldV.mk x : OldV B1 α)) :: Γ')
  | skip {o : Option VP} {Γ Γ' : Ctx} : Age B1 Γ Γ' → Age B1 (o :: Γ) (none :: Γ')
theorem Age.ok {B1 : Hp} {Γ Γ' : Ctx} (a : Age B1 Γ Γ') : Γ'.length = Γ.length ∧ ∀ (k : Nat) (P2 : VP), Γ'[k]? = some (some P2) → ∃ P : VP, Γ[k]? = some (some P) ∧ Stays P2 ∧ ∀ v, P v B1 → P2 v B1 := by
  induction a with
  | nil => exact ⟨rfl, fun k P2 h => by simp at h⟩
  | cons x _ ih =>
    refine ⟨by simp [ih.1], fun k P2 h => ?_⟩
    cases k with
    | zero => cases h; exact ⟨_, rfl, Py.stays _, fun v h => ⟨h, h⟩⟩
    | succ k => exact ih.2 k P2 h
  | skip _ ih =>
    refine ⟨by simp [ih.1], fun k P2 h => ?_⟩
    cases k with
    | zero => cases h
    | succ k => exact ih.2 k P2 h
inductive Young (B1 : Hp) : Ctx → Ctx → Prop
  | nil : Young B1 [] []
  | old {α : Type} [Py α] (x : α) {Γ Γ' : Ctx} : Young B1 Γ Γ' → Young B1 (some (Py.is (OldV.mk x : OldV B1 α)) :: Γ) (some (Py.is x) :: Γ')
  | lat {l : Addr} {xs : List Int} {Γ Γ' : Ctx} : Young B1 Γ Γ' → Young B1 (some (Py.is (LAt.mk l xs)) :: Γ) (some (RefP l) :: Γ')
  | flat {P : VP} (f : Flat P) {Γ Γ' : Ctx} : Young B1 Γ Γ' → Young B1 (some P :: Γ) (some P :: Γ')
  | skip {o : Option VP} {Γ Γ' : Ctx} : Young B1 Γ Γ' → Young B1 (o :: Γ) (none :: Γ')
theorem Young.ok {B1 B : Hp} {Γ Γ' : Ctx} (a : Young B1 Γ Γ') : Γ'.length = Γ.length ∧ ∀ (k : Nat) (P2 : VP), Γ'[k]? = some (some P2) → ∃ P : VP, Γ[k]? = some (some P) ∧ Stays P2 ∧ ∀ v, P v B → P2 v B1 := by
  induction a with
  | nil => exact ⟨rfl, fun k P2 h => by simp at h⟩
  | old x _ ih =>
    refine ⟨by simp [ih.1], fun k P2 h => ?_⟩
    cases k with
    | zero => cases h; exact ⟨_, rfl, Py.stays _, fun v h => h.1⟩
    | succ k => exact ih.2 k P2 h
  | lat _ ih =>
    refine ⟨by simp [ih.1], fun k P2 h => ?_⟩
    cases k with
    | zero => cases h; exact ⟨_, rfl, RefP.stays, fun v h => h.1⟩
    | succ k => exact ih.2 k P2 h
  | flat f _ ih =>
    refine ⟨by simp [ih.1], fun k P2 h => ?_⟩
    cases k with
    | zero => cases h; exact ⟨_, rfl, fun v B B' _ h => f v B B' h, fun v h => f v _ _ h⟩
    | succ k => exact ih.2 k P2 h
  | skip _ ih =>
    refine ⟨by simp [ih.1], fun k P2 h => ?_⟩
    cases k with
    | zero => cases h
    | succ k => exact ih.2 k P2 h
theorem Nx.back {c0 c1 : Nat} {z1 : Int} {B1 H1 : Hp} (n1 : Nx G c0 z0 B0 H0 z1 B1 H1) (n : Nx G c1 z0 B0 H0 z B H) (e : Ex B1 B) : Nx G c1 z0 B0 H0 z B1 H :=
  ⟨⟨e.trans n.at_.ex, fun g hg => ⟨by
    cases q : B1 g with
    | none => rfl
    | some o => exact absurd ((e _ _ q).symm.trans (n.at_.gen g hg).1) (by simp), (n.at_.gen g hg).2⟩⟩, n1.up, n1.new, n.lo, n.hi, n.keep⟩
theorem Ex.no {B1 : Hp} (e : Ex B1 B) {l : Addr} (h : B l = none) : B1 l = none := by
  cases q : B1 l with
  | none => rfl
  | some o => rw [e _ _ q] at h; cases h
/-! ### new results: the first of a pair, pairs -/
end
/-! ### numbers of so many bits -/
end AP
set_option maxHeartbeats 4000000
namespace K04
open PySem PySem.Spec PyProof.Rows L2 AP Evl
def topS (i : Nat) : Stmt := PySem.Challenge.pw_anyplaces_k04_words_and_places_refused.main.body.getD i (.Pass ⟨0, 0, 0, 0⟩)
/-- the built-in names -/
structure TN (mg : Str → Option Value) : Prop where
  b_int : mg "int" = none
  b_bool : mg "bool" = none
  b_list : mg "list" = none
  b_tuple : mg "tuple" = none
  b_dict : mg "dict" = none
  b_isinstance : mg "isinstance" = none
  b_all : mg "all" = none
  b_any : mg "any" = none
  b_len : mg "len" = none
  b_range : mg "range" = none
  b_sum : mg "sum" = none
  b_max : mg "max" = none
  b_min : mg "min" = none
  b_sorted : mg "sorted" = none
  b_repr : mg "repr" = none
  b_enumerate : mg "enumerate" = none
  b_zip : mg "zip" = none
  b_reversed : mg "reversed" = none
  b_abs : mg "abs" = none
  b_ValueError : mg "ValueError" = none
def cIsOneOf : AP.Con (List Int × Dat) Bool := ⟨fun i => [Py.is i.1, Py.is i.2], nop, fun _ => 0, fun i b => b = (i.2.whole && decide (i.2.toI ∈ i.1))⟩
section
variable {G : Option Addr} {c0 c1 : Nat} {t0 t1 : TE} {Γ : AP.Ctx}
theorem y_isOneOf {ps : List Int} {d : Dat} {E : XK} (h0 : AP.Ty G c0 t0 Γ (· = ps)) (h1 : AP.Ty G c1 t1 Γ (· = d)) : AP.Ty G (c0 + (c1 + 0) + 0) (tCall cIsOneOf.sp [] E (tCons t0 (tCons t1 tNil))) Γ (· = (d.whole && decide (d.toI ∈ ps))) := ty_call (C := cIsOneOf) (ps, d) (ta_cons h0 (ta_cons h1 ta_nil)) trivial
end
section
variable {P : Program} {w : World} {K : PySem.W.Frag} {mg : Str → Option Value} {base : Heap}
abbrev sis_whole : Stmt := topS 9
theorem scis_whole : FnScope ["value"] ["value"] (defScope sis_whole) := ⟨rfl, rfl, rfl, by decide +kernel, rfl, by decide +kernel, by decide +kernel⟩
theorem ok_is_whole {f : Addr} {fd : FuncData} (F : Df K "is_whole" "is_whole" sis_whole [] f fd) (T : TN mg)   :
    FnOk P w K mg base CX0 1 f fd ["value"] cWhole.sp := by
  refine con_go F scis_whole cWhole (fun _ => rfl) fun cdv A outer s H E i G z0 B0 hr hp at0 hz => ⟨_, (pss_one (ps_ret (pe_and (pe_callB (r := rIsi K) call_isi (by rfl) T.b_isinstance (by decide +kernel) (pa_cons (pv 0) (pa_cons (pe_bltn (v := .ty "int") (by rfl) T.b_int (by decide +kernel) rfl) pa_nil))) (pe_one (pe_not (pe_callB (r := rIsi K) call_isi (by rfl) T.b_isinstance (by decide +kernel) (pa_cons (pv 0) (pa_cons (pe_bltn (v := .ty "bool") (by rfl) T.b_bool (by decide +kernel) rfl) pa_nil)))))))), fun σ Q en q => ?_⟩
  have n0 := Nx.refl at0
  exact q_ret at0 n0 en ((ty_andV (ty_isi .int (ty_var rfl)) fun _ => ty_notV (ty_isi .bool (ty_var rfl))).to (Dat.whole_eq i)) hz q
abbrev sis_between : Stmt := topS 10
theorem scis_between : FnScope ["value", "low", "high"] ["value", "low", "high"] (defScope sis_between) := ⟨rfl, rfl, rfl, by decide +kernel, rfl, by decide +kernel, by decide +kernel⟩
theorem ok_is_between {f : Addr} {fd : FuncData} (F : Df K "is_between" "is_between" sis_between [] f fd) (T : TN mg)  (Fis_whole : Fo P w K mg base "is_whole" 1 ["value"] cWhole.sp) :
    FnOk P w K mg base CX0 2 f fd ["value", "low", "high"] cBetween.sp := by
  refine con_go F scis_between cBetween (fun _ => rfl) fun cdv A outer s H E i G z0 B0 hr hp at0 hz => ⟨_, (pss_one (ps_ret (pe_and (pe_fo Fis_whole (hr.mono (by decide)) (by rfl) (pa_cons (pv 0) pa_nil)) (pe_one (pe_chain op_le op_le (pv 1) (pv 0) (pv 2)))))), fun σ Q en q => ?_⟩
  have n0 := Nx.refl at0
  obtain ⟨d, lo, hi⟩ := i
  exact q_ret at0 n0 en ((ty_andV (y_whole (ty_var rfl)) fun hw => ty_chain (ty_var rfl) ((ty_var (x := d) rfl).intOf hw) (ty_var rfl)).to (Dat.within_eq lo hi d).symm) hz q
abbrev sfits_width : Stmt := topS 11
theorem scfits_width : FnScope ["value"] ["value"] (defScope sfits_width) := ⟨rfl, rfl, rfl, by decide +kernel, rfl, by decide +kernel, by decide +kernel⟩
theorem ok_fits_width {f : Addr} {fd : FuncData} (F : Df K "fits_width" "fits_width" sfits_width [] f fd) (T : TN mg) (W : ∃ t, mg "WIDEST" = some (.int 64 t)) (Fis_between : Fo P w K mg base "is_between" 2 ["value", "low", "high"] cBetween.sp) :
    FnOk P w K mg base CX0 3 f fd ["value"] cFitsWidth.sp := by
  obtain ⟨tk, mW⟩ := W
  refine con_go F scfits_width cFitsWidth (fun _ => rfl) fun cdv A outer s H E i G z0 B0 hr hp at0 hz => ⟨_, (pss_one (ps_ret (pe_fo Fis_between (hr.mono (by decide)) (by rfl) (pa_cons (pv 0) (pa_cons pe_int (pa_cons (pe_glob (v := .int 64) (by rfl) mW ⟨_, rfl⟩) pa_nil)))))), fun σ Q en q => ?_⟩
  have n0 := Nx.refl at0
  exact q_ret at0 n0 en (y_between (ty_var rfl) ty_i ty_i) hz q
abbrev sfits_word : Stmt := topS 12
theorem scfits_word : FnScope ["width", "value"] ["width", "value"] (defScope sfits_word) := ⟨rfl, rfl, rfl, by decide +kernel, rfl, by decide +kernel, by decide +kernel⟩
theorem ok_fits_word {f : Addr} {fd : FuncData} (F : Df K "fits_word" "fits_word" sfits_word [] f fd) (T : TN mg)  (Fis_between : Fo P w K mg base "is_between" 2 ["value", "low", "high"] cBetween.sp) :
    FnOk P w K mg base CX0 3 f fd ["width", "value"] cFitsWord.sp := by
  refine con_go F scfits_word cFitsWord (fun _ => rfl) fun cdv A outer s H E i G z0 B0 hr hp at0 hz => ⟨_, (pss_one (ps_ret (pe_fo Fis_between (hr.mono (by decide)) (by rfl) (pa_cons (pv 1) (pa_cons pe_int (pa_cons (pe_op op_sub (pe_op op_shl pe_int (pv 0)) pe_int) pa_nil)))))), fun σ Q en q => ?_⟩
  have n0 := Nx.refl at0
  obtain ⟨wd, d⟩ := i
  have hw : 1 ≤ wd ∧ wd ≤ 64 := hp
  exact q_ret at0 n0 en (y_between (ty_var rfl) ty_i (ty_I0 (ty_shl (ty_var rfl) ⟨by omega, by omega⟩) ty_i)) hz q
abbrev stwos_of : Stmt := topS 13
theorem sctwos_of : FnScope ["number"] ["number"] (defScope stwos_of) := ⟨rfl, rfl, rfl, by decide +kernel, rfl, by decide +kernel, by decide +kernel⟩
theorem ok_twos_of {f : Addr} {fd : FuncData} (F : Df K "twos_of" "twos_of" stwos_of [] f fd) (T : TN mg)   :
    FnOk P w K mg base CX0 1 f fd ["number"] cTwosIn.sp := by
  refine con_go F sctwos_of cTwosIn (fun _ => rfl) fun cdv A outer s H E i G z0 B0 hr hp at0 hz => ⟨_, (pss_one (ps_ret (pe_op op_sub (pe_bits (pe_op op_and (pv 0) (pe_un un_neg (pv 0)))) pe_int))), fun σ Q en q => ?_⟩
  have n0 := Nx.refl at0
  have h0 : i ≠ 0 := hp
  exact q_ret at0 n0 en ((ty_I0 (f := fun a b => a - b) (ty_bits (ty_I0 (f := Builtin.bitAnd) (ty_var (x := i) rfl) (ty_neg (ty_var (x := i) rfl)))) ty_i).to (twos_bits h0)) hz q
abbrev sis_one_of : Stmt := topS 14
theorem scis_one_of : FnScope ["places", "value"] ["places", "value"] (defScope sis_one_of) := ⟨rfl, rfl, rfl, by decide +kernel, rfl, by decide +kernel, by decide +kernel⟩
theorem ok_is_one_of {f : Addr} {fd : FuncData} (F : Df K "is_one_of" "is_one_of" sis_one_of [] f fd) (T : TN mg)  (Fis_whole : Fo P w K mg base "is_whole" 1 ["value"] cWhole.sp) :
    FnOk P w K mg base CX0 2 f fd ["places", "value"] cIsOneOf.sp := by
  refine con_go F scis_one_of cIsOneOf (fun _ => rfl) fun cdv A outer s H E i G z0 B0 hr hp at0 hz => ⟨_, (pss_one (ps_ret (pe_and (pe_fo Fis_whole (hr.mono (by decide)) (by rfl) (pa_cons (pv 1) pa_nil)) (pe_one (pe_cmpR (r := rIn K false) op_in_seq (pv 1) (pv 0) (by rfl)))))), fun σ Q en q => ?_⟩
  have n0 := Nx.refl at0
  obtain ⟨ps, d⟩ := i
  exact q_ret at0 n0 en (ty_andV (y_whole (ty_var (x := d) rfl)) fun ha => ty_in ((ty_var (x := d) rfl).intOf ha) (ty_var (x := ps) rfl)) hz q
abbrev sare_wholes : Stmt := topS 15
theorem scare_wholes : FnScope ["value", "number"] ["value"] (defScope sare_wholes) := ⟨rfl, rfl, rfl, by decide +kernel, rfl, by decide +kernel, by decide +kernel⟩
theorem ok_are_wholes {f : Addr} {fd : FuncData} (F : Df K "are_wholes" "are_wholes" sare_wholes [] f fd) (T : TN mg)  (Fis_whole : Fo P w K mg base "is_whole" 1 ["value"] cWhole.sp) :
    FnOk P w K mg base CX0 2 f fd ["value"] cAreWholes.sp := by
  refine con_go F scare_wholes cAreWholes (fun _ => rfl) fun cdv A outer s H E i G z0 B0 hr hp at0 hz => ⟨_, (pss_one (ps_ret (pe_and (pe_callB (r := rIsi K) call_isi (by rfl) T.b_isinstance (by decide +kernel) (pa_cons (pv 0) (pa_cons (pe_bltn (v := .ty "list") (by rfl) T.b_list (by decide +kernel) rfl) pa_nil))) (pe_one (pe_callB (r := rAll K) (cr_all rfl) (by rfl) T.b_all (by decide +kernel) (pa_cons (pe_lc (own := [("number", 1)]) rfl scare_wholes.nd (pi_list (pv 0)) (blkOk_by (own := [("number", 1)]) (N := ["value", "number"]) (sc := defScope sare_wholes) (by decide +kernel)) (fun _ _ _ _ _ => (pg_name (i := 1) scare_wholes.nd rfl (Or.inl rfl))) (fun _ _ _ _ _ => pts_nil) (fun _ _ _ _ _ => (pe_fo Fis_whole (hr.mono (by decide)) (by rfl) (pa_cons (pv 1) pa_nil)))) pa_nil)))))), fun σ Q en q => ?_⟩
  have n0 := Nx.refl at0
  have sm : i.small := hp
  refine q_ret at0 n0 en ((ty_andV (c2 := 0) (b := wholesB i) (ty_isi .list (ty_var rfl)) fun hl => ?_).to (by cases i <;> rfl)) hz q
  cases i with
  | lst ds =>
    exact (ty_all (ty_lcM ((ty_var rfl).lstDat) (Nat.le_trans sm (by decide)) (by simp) fun x hx => y_whole (ty_var rfl))).to (by rw [List.all_map]; rfl)
  | _ => cases hl
abbrev sare_words : Stmt := topS 16
theorem scare_words : FnScope ["width", "value", "word"] ["width", "value"] (defScope sare_words) := ⟨rfl, rfl, rfl, by decide +kernel, rfl, by decide +kernel, by decide +kernel⟩
theorem ok_are_words {f : Addr} {fd : FuncData} (F : Df K "are_words" "are_words" sare_words [] f fd) (T : TN mg)  (Ffits_word : Fo P w K mg base "fits_word" 3 ["width", "value"] cFitsWord.sp) :
    FnOk P w K mg base CX0 4 f fd ["width", "value"] cAreWords.sp := by
  refine con_go F scare_words cAreWords (fun _ => rfl) fun cdv A outer s H E i G z0 B0 hr hp at0 hz => ⟨_, (pss_one (ps_ret (pe_and (pe_callB (r := rIsi K) call_isi (by rfl) T.b_isinstance (by decide +kernel) (pa_cons (pv 1) (pa_cons (pe_bltn (v := .ty "list") (by rfl) T.b_list (by decide +kernel) rfl) pa_nil))) (pe_one (pe_callB (r := rAll K) (cr_all rfl) (by rfl) T.b_all (by decide +kernel) (pa_cons (pe_lc (own := [("word", 2)]) rfl scare_words.nd (pi_list (pv 1)) (blkOk_by (own := [("word", 2)]) (N := ["width", "value", "word"]) (sc := defScope sare_words) (by decide +kernel)) (fun _ _ _ _ _ => (pg_name (i := 2) scare_words.nd rfl (Or.inl rfl))) (fun _ _ _ _ _ => pts_nil) (fun _ _ _ _ _ => (pe_fo Ffits_word (hr.mono (by decide)) (by rfl) (pa_cons (pv 0) (pa_cons (pv 2) pa_nil))))) pa_nil)))))), fun σ Q en q => ?_⟩
  have n0 := Nx.refl at0
  obtain ⟨wd, d⟩ := i
  obtain ⟨hw, sm⟩ := hp
  refine q_ret at0 n0 en ((ty_andV (c2 := 0) (b := wordsB wd d) (ty_isi .list (ty_var rfl)) fun hl => ?_).to (by cases d <;> rfl)) hz q
  cases d with
  | lst ds =>
    exact (ty_all (ty_lcM ((ty_var rfl).lstDat) (Nat.le_trans sm (by decide)) (by simp) fun x hx => y_fitsWord (ty_var rfl) (ty_var rfl) hw)).to (by rw [List.all_map]; rfl)
  | _ => cases hl
abbrev sclimbs : Stmt := topS 17
theorem scclimbs : FnScope ["numbers", "k"] ["numbers"] (defScope sclimbs) := ⟨rfl, rfl, rfl, by decide +kernel, rfl, by decide +kernel, by decide +kernel⟩
theorem ok_climbs {f : Addr} {fd : FuncData} (F : Df K "climbs" "climbs" sclimbs [] f fd) (T : TN mg)   :
    FnOk P w K mg base CX0 1 f fd ["numbers"] cClimbs.sp := by
  refine con_go F scclimbs cClimbs (fun _ => rfl) fun cdv A outer s H E i G z0 B0 hr hp at0 hz => ⟨_, (pss_one (ps_ret (pe_callB (r := rAll K) (cr_all rfl) (by rfl) T.b_all (by decide +kernel) (pa_cons (pe_lc (own := [("k", 1)]) rfl scclimbs.nd (pi_range2 (by rfl) T.b_range (pa_cons pe_int (pa_cons (pe_callB (r := rLenS K) call_len_seq (by rfl) T.b_len (by decide +kernel) (pa_cons (pv 0) pa_nil)) pa_nil))) (blkOk_by (own := [("k", 1)]) (N := ["numbers", "k"]) (sc := defScope sclimbs) (by decide +kernel)) (fun _ _ _ _ _ => (pg_name (i := 1) scclimbs.nd rfl (Or.inl rfl))) (fun _ _ _ _ _ => pts_nil) (fun _ _ _ _ _ => (pe_cmpR op_lt (pe_ix (r := rIxL K) ix_list (pv 0) (pe_op op_sub (pv 1) pe_int) (fun _ _ => rfl)) (pe_ix (r := rIxL K) ix_list (pv 0) (pv 1) (fun _ _ => rfl)) (nomark _)))) pa_nil)))), fun σ Q en q => ?_⟩
  have n0 := Nx.refl at0
  have sm : i.length ≤ 30000 := hp
  refine q_ret at0 n0 en ((ty_all (ty_lcR2 (p := fun _ => true) (f := fun x : Int => decide (i.getD (x - 1).toNat 0 < i.getD x.toNat 0)) (ta_cons ty_i (ta_cons (ty_len (ty_var rfl)) ta_nil)) (by decide) ⟨by omega, by omega⟩ (by omega) (by simp) (fun x _ _ => tt_yes) fun x h1 h2 _ => ?_)).to (climbs_eq i)) hz q
  exact ty_B0 (ty_ix (ty_var rfl) (ty_I0 (ty_var rfl) ty_i) (atI_in (by omega) (by omega))) (ty_ix (ty_var rfl) (ty_var rfl) (atI_in (by omega) h2))
abbrev sare_places : Stmt := topS 18
theorem scare_places : FnScope ["width", "value"] ["width", "value"] (defScope sare_places) := ⟨rfl, rfl, rfl, by decide +kernel, rfl, by decide +kernel, by decide +kernel⟩
theorem ok_are_places {f : Addr} {fd : FuncData} (F : Df K "are_places" "are_places" sare_places [] f fd) (T : TN mg)  (Fare_words : Fo P w K mg base "are_words" 4 ["width", "value"] cAreWords.sp) (Fclimbs : Fo P w K mg base "climbs" 1 ["numbers"] cClimbs.sp) :
    FnOk P w K mg base CX0 5 f fd ["width", "value"] cArePlaces.sp := by
  refine con_go F scare_places cArePlaces (fun _ => rfl) fun cdv A outer s H E i G z0 B0 hr hp at0 hz => ⟨_, (pss_one (ps_ret (pe_and (pe_fo Fare_words (hr.mono (by decide)) (by rfl) (pa_cons (pv 0) (pa_cons (pv 1) pa_nil))) (pe_and (pe_cmpR op_gt (pe_callB (r := rLenS K) call_len_seq (by rfl) T.b_len (by decide +kernel) (pa_cons (pv 1) pa_nil)) pe_int (nomark _)) (pe_one (pe_fo Fclimbs (hr.mono (by decide)) (by rfl) (pa_cons (pv 1) pa_nil))))))), fun σ Q en q => ?_⟩
  have n0 := Nx.refl at0
  obtain ⟨wd, d⟩ := i
  obtain ⟨hw, sm⟩ := hp
  refine q_ret at0 n0 en ((ty_andV (c2 := 0) (b := placesB wd d) (y_areWords (ty_var rfl) (ty_var rfl) ⟨hw, sm⟩) fun h => ?_).to (by cases d <;> first | rfl | (show (wordsB wd _ && placesB wd _) = placesB wd _; unfold wordsB placesB; dsimp only; rw [← Bool.and_assoc, Bool.and_self]))) hz q
  cases d with
  | lst ds =>
    have all : ds.all (Dat.word wd) = true := h
    have sm' : ds.length ≤ 30000 := sm
    have tyw : Ty G 0 (tVar 1) (ctx0 2 (cArePlaces.args (wd, .lst ds))) (· = ds.map Dat.toI) := (ty_var (x := Dat.lst ds) rfl).intsOf (words_whole all)
    refine (ty_andV (ty_B0 (ty_len ((ty_var (x := Dat.lst ds) rfl).lstDat)) ty_i) fun _ => y_climbs tyw (by rw [List.length_map]; exact sm')).to ?_
    show (decide ((0 : Int) < (ds.length : Int)) && climbs (ds.map Dat.toI)) = (ds.all (Dat.word wd) && (decide (0 < ds.length) && climbs (ds.map Dat.toI)))
    rw [all, Bool.true_and, decide_eq_decide.mpr (show (0 : Int) < (ds.length : Int) ↔ 0 < ds.length by omega)]
  | _ => cases h
abbrev sare_words_at : Stmt := topS 19
theorem scare_words_at : FnScope ["width", "places", "value"] ["width", "places", "value"] (defScope sare_words_at) := ⟨rfl, rfl, rfl, by decide +kernel, rfl, by decide +kernel, by decide +kernel⟩
theorem ok_are_words_at {f : Addr} {fd : FuncData} (F : Df K "are_words_at" "are_words_at" sare_words_at [] f fd) (T : TN mg)  (Fare_words : Fo P w K mg base "are_words" 4 ["width", "value"] cAreWords.sp) :
    FnOk P w K mg base CX0 5 f fd ["width", "places", "value"] cWordsAt.sp := by
  refine con_go F scare_words_at cWordsAt (fun _ => rfl) fun cdv A outer s H E i G z0 B0 hr hp at0 hz => ⟨_, (pss_one (ps_ret (pe_and (pe_fo Fare_words (hr.mono (by decide)) (by rfl) (pa_cons (pv 0) (pa_cons (pv 2) pa_nil))) (pe_one (pe_cmpR op_eq (pe_callB (r := rLenS K) call_len_seq (by rfl) T.b_len (by decide +kernel) (pa_cons (pv 2) pa_nil)) (pe_callB (r := rLenS K) call_len_seq (by rfl) T.b_len (by decide +kernel) (pa_cons (pv 1) pa_nil)) (nomark _)))))), fun σ Q en q => ?_⟩
  have n0 := Nx.refl at0
  obtain ⟨wd, ps, d⟩ := i
  obtain ⟨hw, sm⟩ := hp
  refine q_ret at0 n0 en ((ty_andV (c2 := 0) (b := wordsAtB wd ps.length d) (y_areWords (ty_var rfl) (ty_var rfl) ⟨hw, sm⟩) fun h => ?_).to (by cases d <;> first | rfl | (show (wordsB wd _ && wordsAtB wd _ _) = wordsAtB wd _ _; unfold wordsB wordsAtB; dsimp only; rw [← Bool.and_assoc, Bool.and_self]))) hz q
  cases d with
  | lst ds =>
    have all : ds.all (Dat.word wd) = true := h
    refine (ty_eqI (ty_len ((ty_var (x := Dat.lst ds) rfl).lstDat)) (ty_len (ty_var (x := ps) rfl))).to ?_
    show decide ((ds.length : Int) = (ps.length : Int)) = (ds.all (Dat.word wd) && decide (ds.length = ps.length))
    rw [all, Bool.true_and, decide_eq_decide.mpr (show (ds.length : Int) = (ps.length : Int) ↔ ds.length = ps.length by omega)]
  | _ => cases h
abbrev sis_known_word : Stmt := topS 20
theorem scis_known_word : FnScope ["width", "places", "value"] ["width", "places", "value"] (defScope sis_known_word) := ⟨rfl, rfl, rfl, by decide +kernel, rfl, by decide +kernel, by decide +kernel⟩
theorem ok_is_known_word {f : Addr} {fd : FuncData} (F : Df K "is_known_word" "is_known_word" sis_known_word [] f fd) (T : TN mg)  (Fis_one_of : Fo P w K mg base "is_one_of" 2 ["places", "value"] cIsOneOf.sp) (Ffits_word : Fo P w K mg base "fits_word" 3 ["width", "value"] cFitsWord.sp) :
    FnOk P w K mg base CX0 4 f fd ["width", "places", "value"] cKnownOne.sp := by
  refine con_go F scis_known_word cKnownOne (fun _ => rfl) fun cdv A outer s H E i G z0 B0 hr hp at0 hz => ⟨_, (pss_cons (ps_if (PW.pt (pw_or (pt_not (pt_val (pe_callB (r := rIsi K) call_isi (by rfl) T.b_isinstance (by decide +kernel) (pa_cons (pv 2) (pa_cons (pe_bltn (v := .ty "tuple") (by rfl) T.b_tuple (by decide +kernel) rfl) pa_nil))))) (pw_or1 (pt_cmpR op_ne (pe_callB (r := rLenS K) call_len_seq (by rfl) T.b_len (by decide +kernel) (pa_cons (pv 2) pa_nil)) pe_int (nomark _))))) (pss_one (ps_ret pe_bl)) pss_nil)
     (pss_one (ps_ret (pe_and (pe_fo Fis_one_of (hr.mono (by decide)) (by rfl) (pa_cons (pv 1) (pa_cons (pe_ix (r := rIxT K) ix_tup (pv 2) pe_int (fun _ _ => rfl)) pa_nil))) (pe_one (pe_fo Ffits_word (hr.mono (by decide)) (by rfl) (pa_cons (pv 0) (pa_cons (pe_ix (r := rIxT K) ix_tup (pv 2) pe_int (fun _ _ => rfl)) pa_nil)))))))), fun σ Q en q => ?_⟩
  have n0 := Nx.refl at0
  obtain ⟨wd, ps, d⟩ := i
  have hw : wOk wd := hp
  by_cases ht : d.isT .tuple = true
  · obtain ⟨ds, rfl⟩ : ∃ ds, d = .tup ds := by cases d <;> first | exact ⟨_, rfl⟩ | cases ht
    refine AP.q_when at0 n0 en (tt_or (tt_notD (tt_B (ty_isi .tuple (ty_var rfl)))) fun _ => tt_test (ty_neI (ty_lenT (ty_var (x := Dat.tup ds) rfl)) ty_i)) hz (fun hb z' B' H' _ n en => ?_) (fun hb z' B' H' _ n en => ?_)
    · refine q_ret at0 n en ty_b hz fun x v z' B' H' e n h => q x v z' B' H' ?_ n h
      rw [e]
      have : ¬ ds.length = 2 := fun l => by
        have hb' : (!true || !decide ((ds.length : Int) = 2)) = true := hb
        rw [l] at hb'
        exact absurd hb' (by decide)
      match ds, this with
      | [], _ => rfl
      | [_], _ => rfl
      | [_, _], t => exact absurd rfl t
      | _ :: _ :: _ :: _, _ => rfl
    · have l2 : ds.length = 2 := by
        have hb' : (!true || !decide ((ds.length : Int) = 2)) = false := hb
        have : decide ((ds.length : Int) = 2) = true := by simpa using hb'
        have := of_decide_eq_true this
        omega
      match ds, l2 with
      | [a, b], _ =>
        exact q_ret at0 n en ((ty_andV (y_isOneOf (ty_var (x := ps) rfl) (ty_ixT (ds := [a, b]) (ty_var rfl) ty_i rfl)) fun _ => y_fitsWord (ty_var rfl) (ty_ixT (ds := [a, b]) (ty_var rfl) ty_i rfl) hw).to (by show _ = (a.whole && (decide (a.toI ∈ ps) && b.word wd)); rw [Bool.and_assoc])) hz q
  · refine AP.q_when at0 n0 en (tt_or (c2 := 0) (b := false) (tt_notD (tt_B (ty_isi .tuple (ty_var (x := d) rfl)))) fun z => absurd (by simpa using z) ht) hz (fun hb z' B' H' _ n en => ?_) (fun hb => absurd hb (by simp at ht; rw [ht]; decide))
    refine q_ret at0 n en ty_b hz fun x v z' B' H' e n h => q x v z' B' H' ?_ n h
    rw [e]
    cases d <;> first | rfl | exact absurd rfl ht
abbrev sare_known : Stmt := topS 21
theorem scare_known : FnScope ["width", "places", "value", "one"] ["width", "places", "value"] (defScope sare_known) := ⟨rfl, rfl, rfl, by decide +kernel, rfl, by decide +kernel, by decide +kernel⟩
theorem ok_are_known {f : Addr} {fd : FuncData} (F : Df K "are_known" "are_known" sare_known [] f fd) (T : TN mg)  (Fis_known_word : Fo P w K mg base "is_known_word" 4 ["width", "places", "value"] cKnownOne.sp) (Fclimbs : Fo P w K mg base "climbs" 1 ["numbers"] cClimbs.sp) :
    FnOk P w K mg base CX0 5 f fd ["width", "places", "value"] cKnown.sp := by
  refine con_go F scare_known cKnown (fun _ => rfl) fun cdv A outer s H E i G z0 B0 hr hp at0 hz => ⟨_, (pss_cons (ps_if (PW.pt (pw_or (pt_not (pt_val (pe_callB (r := rIsi K) call_isi (by rfl) T.b_isinstance (by decide +kernel) (pa_cons (pv 2) (pa_cons (pe_bltn (v := .ty "list") (by rfl) T.b_list (by decide +kernel) rfl) pa_nil))))) (pw_or1 (pt_not (pt_val (pe_callB (r := rAll K) (cr_all rfl) (by rfl) T.b_all (by decide +kernel) (pa_cons (pe_lc (own := [("one", 3)]) rfl scare_known.nd (pi_list (pv 2)) (blkOk_by (own := [("one", 3)]) (N := ["width", "places", "value", "one"]) (sc := defScope sare_known) (by decide +kernel)) (fun _ _ _ _ _ => (pg_name (i := 3) scare_known.nd rfl (Or.inl rfl))) (fun _ _ _ _ _ => pts_nil) (fun _ _ _ _ _ => (pe_fo Fis_known_word (hr.mono (by decide)) (by rfl) (pa_cons (pv 0) (pa_cons (pv 1) (pa_cons (pv 3) pa_nil)))))) pa_nil))))))) (pss_one (ps_ret pe_bl)) pss_nil)
     (pss_one (ps_ret (pe_fo Fclimbs (hr.mono (by decide)) (by rfl) (pa_cons (pe_lc (own := [("one", 3)]) rfl scare_known.nd (pi_list (pv 2)) (blkOk_by (own := [("one", 3)]) (N := ["width", "places", "value", "one"]) (sc := defScope sare_known) (by decide +kernel)) (fun _ _ _ _ _ => (pg_name (i := 3) scare_known.nd rfl (Or.inl rfl))) (fun _ _ _ _ _ => pts_nil) (fun _ _ _ _ _ => (pe_ix (r := rIxT K) ix_tup (pv 3) pe_int (fun _ _ => rfl)))) pa_nil))))), fun σ Q en q => ?_⟩
  have n0 := Nx.refl at0
  obtain ⟨wd, ps, d⟩ := i
  obtain ⟨hw, sm⟩ := hp
  by_cases hl : d.isT .list = true
  · obtain ⟨ds, rfl⟩ : ∃ ds, d = .lst ds := by cases d <;> first | exact ⟨_, rfl⟩ | cases hl
    have sm' : ds.length ≤ 30000 := sm
    refine AP.q_when at0 n0 en (tt_or (tt_notD (tt_B (ty_isi .list (ty_var rfl)))) fun _ => tt_notD (tt_B (ty_all (ty_lcM ((ty_var (x := Dat.lst ds) rfl).lstDat) (by omega) (by simp) fun x hx => y_knownOne (ty_var rfl) (ty_var rfl) (ty_var rfl) hw)))) hz (fun hb z' B' H' _ n en => ?_) (fun hb z' B' H' _ n en => ?_)
    · refine q_ret at0 n en ty_b hz fun x v z' B' H' e n h => q x v z' B' H' ?_ n h
      rw [e]
      show false = (ds.all (knownOneB wd ps) && _)
      have hb' : (!true || !((ds.map fun x => knownOneB wd ps x).all id)) = true := hb
      rw [List.all_map] at hb'
      have : ds.all (knownOneB wd ps) = false := by
        cases e : ds.all (knownOneB wd ps) with
        | false => rfl
        | true => exact absurd (show (!true || !(ds.all (knownOneB wd ps))) = true from hb') (by rw [e]; decide)
      rw [this, Bool.false_and]
    · have all : ds.all (knownOneB wd ps) = true := by
        have hb' : (!true || !((ds.map fun x => knownOneB wd ps x).all id)) = false := hb
        rw [List.all_map] at hb'
        cases e : ds.all (knownOneB wd ps) with
        | true => rfl
        | false => exact absurd (show (!true || !(ds.all (knownOneB wd ps))) = false from hb') (by rw [e]; decide)
      have one : ∀ x, x ∈ ds → ∃ a b, x = .tup [a, b] ∧ a.whole = true := fun x hx => by
        have k := List.all_eq_true.mp all x hx
        match x, k with
        | .tup [a, b], k => exact ⟨a, b, rfl, by unfold knownOneB at k; simp only [Bool.and_eq_true] at k; exact k.1⟩
      refine q_ret at0 n en ((y_climbs (ty_lcM (f := fun d => d.fst.toI) ((ty_var (x := Dat.lst ds) rfl).lstDat) (by omega) (by simp) fun x hx => ?_) (by rw [List.length_map]; exact sm')).to ?_) hz q
      · obtain ⟨a, b, rfl, ha⟩ := one x hx
        exact (ty_ixT (ds := [a, b]) (ty_var rfl) ty_i rfl).intOf ha
      · show climbs (ds.map fun d => d.fst.toI) = (ds.all (knownOneB wd ps) && climbs (ds.map fun d => d.fst.toI))
        rw [all, Bool.true_and]
  · refine AP.q_when at0 n0 en (tt_or (c2 := 0) (b := false) (tt_notD (tt_B (ty_isi .list (ty_var (x := d) rfl)))) fun z => absurd (by simpa using z) hl) hz (fun hb z' B' H' _ n en => ?_) (fun hb => absurd hb (by simp at hl; rw [hl]; decide))
    refine q_ret at0 n en ty_b hz fun x v z' B' H' e n h => q x v z' B' H' ?_ n h
    rw [e]
    cases d <;> first | rfl | exact absurd rfl hl
abbrev sneed_width : Stmt := topS 23
theorem scneed_width : FnScope ["width"] ["width"] (defScope sneed_width) := ⟨rfl, rfl, rfl, by decide +kernel, rfl, by decide +kernel, by decide +kernel⟩
theorem ok_need_width {f : Addr} {fd : FuncData} (F : Df K "need_width" "need_width" sneed_width [] f fd) (T : TN mg)  (Ffits_width : Fo P w K mg base "fits_width" 3 ["value"] cFitsWidth.sp) :
    FnOk P w K mg base CX0 4 f fd ["width"] cNeedWidth.sp := by
  refine con_go F scneed_width cNeedWidth (fun _ => rfl) fun cdv A outer s H E i G z0 B0 hr hp at0 hz => ⟨_, (pss_one (ps_if (pt_not (pt_val (pe_fo Ffits_width (hr.mono (by decide)) (by rfl) (pa_cons (pv 0) pa_nil)))) (pss_one ps_never) pss_nil)), fun σ Q en q => ?_⟩
  have n0 := Nx.refl at0
  have hw : 1 ≤ i ∧ i ≤ 64 := hp
  refine s_not at0 n0 en ((tt_notD (tt_B (y_fitsWidth ((ty_var (x := i) rfl).datInt)))).to ?_) hz fun z' B' H' _ n en => q () .non z' B' H' trivial n rfl
  show (!(decide ((1 : Int) ≤ i) && decide (i ≤ 64))) = false
  rw [decide_eq_true hw.1, decide_eq_true hw.2] <;> rfl
abbrev sneed_places : Stmt := topS 24
theorem scneed_places : FnScope ["width", "places"] ["width", "places"] (defScope sneed_places) := ⟨rfl, rfl, rfl, by decide +kernel, rfl, by decide +kernel, by decide +kernel⟩
theorem ok_need_places {f : Addr} {fd : FuncData} (F : Df K "need_places" "need_places" sneed_places [] f fd) (T : TN mg)  (Fare_places : Fo P w K mg base "are_places" 5 ["width", "value"] cArePlaces.sp) :
    FnOk P w K mg base CX0 6 f fd ["width", "places"] cNeedPlaces.sp := by
  refine con_go F scneed_places cNeedPlaces (fun _ => rfl) fun cdv A outer s H E i G z0 B0 hr hp at0 hz => ⟨_, (pss_one (ps_if (pt_not (pt_val (pe_fo Fare_places (hr.mono (by decide)) (by rfl) (pa_cons (pv 0) (pa_cons (pv 1) pa_nil))))) (pss_one ps_never) pss_nil)), fun σ Q en q => ?_⟩
  have n0 := Nx.refl at0
  obtain ⟨wd, ps⟩ := i
  obtain ⟨hw, hpl, sm⟩ := hp
  refine s_not at0 n0 en ((tt_notD (tt_B (y_arePlaces (ty_var rfl) ((ty_var (x := ps) rfl).datInts.datLst) ⟨hw, by show (ps.map Dat.int).length ≤ 30000; rw [List.length_map]; exact sm⟩))).to ?_) hz fun z' B' H' _ n en => q () .non z' B' H' trivial n rfl
  rw [hpl] <;> rfl
abbrev sis_word : Stmt := topS 28
theorem scis_word : FnScope ["width", "value"] ["width", "value"] (defScope sis_word) := ⟨rfl, rfl, rfl, by decide +kernel, rfl, by decide +kernel, by decide +kernel⟩
theorem ok_is_word {f : Addr} {fd : FuncData} (F : Df K "is_word" "is_word" sis_word [] f fd) (T : TN mg)  (Fneed_width : Fo P w K mg base "need_width" 4 ["width"] cNeedWidth.sp) (Ffits_word : Fo P w K mg base "fits_word" 3 ["width", "value"] cFitsWord.sp) :
    FnOk P w K mg base CX0 5 f fd ["width", "value"] cIsWord.sp := by
  refine con_go F scis_word cIsWord (fun _ => rfl) fun cdv A outer s H E i G z0 B0 hr hp at0 hz => ⟨_, (pss_cons (ps_expr (pe_fo Fneed_width (hr.mono (by decide)) (by rfl) (pa_cons (pv 0) pa_nil)))
     (pss_one (ps_ret (pe_fo Ffits_word (hr.mono (by decide)) (by rfl) (pa_cons (pv 0) (pa_cons (pv 1) pa_nil)))))), fun σ Q en q => ?_⟩
  have n0 := Nx.refl at0
  obtain ⟨wd, d⟩ := i
  have hw : wOk wd := hp
  exact q_dropS at0 n0 en (y_needWidth (ty_var rfl) hw) hz fun _ z' B' H' _ _ n en => q_ret at0 n en (y_fitsWord (ty_var rfl) (ty_var rfl) hw) hz q
abbrev sis_words : Stmt := topS 30
theorem scis_words : FnScope ["width", "places", "value"] ["width", "places", "value"] (defScope sis_words) := ⟨rfl, rfl, rfl, by decide +kernel, rfl, by decide +kernel, by decide +kernel⟩
theorem ok_is_words {f : Addr} {fd : FuncData} (F : Df K "is_words" "is_words" sis_words [] f fd) (T : TN mg)  (Fneed_width : Fo P w K mg base "need_width" 4 ["width"] cNeedWidth.sp) (Fneed_places : Fo P w K mg base "need_places" 6 ["width", "places"] cNeedPlaces.sp) (Fare_words_at : Fo P w K mg base "are_words_at" 5 ["width", "places", "value"] cWordsAt.sp) :
    FnOk P w K mg base CX0 7 f fd ["width", "places", "value"] cIsWords.sp := by
  refine con_go F scis_words cIsWords (fun _ => rfl) fun cdv A outer s H E i G z0 B0 hr hp at0 hz => ⟨_, (pss_cons (ps_expr (pe_fo Fneed_width (hr.mono (by decide)) (by rfl) (pa_cons (pv 0) pa_nil)))
     (pss_cons (ps_expr (pe_fo Fneed_places (hr.mono (by decide)) (by rfl) (pa_cons (pv 0) (pa_cons (pv 1) pa_nil))))
     (pss_one (ps_ret (pe_fo Fare_words_at (hr.mono (by decide)) (by rfl) (pa_cons (pv 0) (pa_cons (pv 1) (pa_cons (pv 2) pa_nil)))))))), fun σ Q en q => ?_⟩
  have n0 := Nx.refl at0
  obtain ⟨wd, ps, d⟩ := i
  obtain ⟨hw, hpl, sm⟩ := hp
  exact q_dropS at0 n0 en (y_needWidth (ty_var rfl) hw) hz fun _ z' B' H' _ _ n en => q_dropS at0 n en (y_needPlaces (ty_var rfl) (ty_var rfl) ⟨hw, hpl⟩) hz fun _ z' B' H' _ _ n en => q_ret at0 n en (y_wordsAt (ty_var rfl) (ty_var rfl) (ty_var rfl) ⟨hw, sm⟩) hz q
abbrev sis_known : Stmt := topS 31
theorem scis_known : FnScope ["width", "places", "value"] ["width", "places", "value"] (defScope sis_known) := ⟨rfl, rfl, rfl, by decide +kernel, rfl, by decide +kernel, by decide +kernel⟩
theorem ok_is_known {f : Addr} {fd : FuncData} (F : Df K "is_known" "is_known" sis_known [] f fd) (T : TN mg)  (Fneed_width : Fo P w K mg base "need_width" 4 ["width"] cNeedWidth.sp) (Fneed_places : Fo P w K mg base "need_places" 6 ["width", "places"] cNeedPlaces.sp) (Fare_known : Fo P w K mg base "are_known" 5 ["width", "places", "value"] cKnown.sp) :
    FnOk P w K mg base CX0 7 f fd ["width", "places", "value"] cIsKnown.sp := by
  refine con_go F scis_known cIsKnown (fun _ => rfl) fun cdv A outer s H E i G z0 B0 hr hp at0 hz => ⟨_, (pss_cons (ps_expr (pe_fo Fneed_width (hr.mono (by decide)) (by rfl) (pa_cons (pv 0) pa_nil)))
     (pss_cons (ps_expr (pe_fo Fneed_places (hr.mono (by decide)) (by rfl) (pa_cons (pv 0) (pa_cons (pv 1) pa_nil))))
     (pss_one (ps_ret (pe_fo Fare_known (hr.mono (by decide)) (by rfl) (pa_cons (pv 0) (pa_cons (pv 1) (pa_cons (pv 2) pa_nil)))))))), fun σ Q en q => ?_⟩
  have n0 := Nx.refl at0
  obtain ⟨wd, ps, d⟩ := i
  obtain ⟨hw, hpl, sm⟩ := hp
  exact q_dropS at0 n0 en (y_needWidth (ty_var rfl) hw) hz fun _ z' B' H' _ _ n en => q_dropS at0 n en (y_needPlaces (ty_var rfl) (ty_var rfl) ⟨hw, hpl⟩) hz fun _ z' B' H' _ _ n en => q_ret at0 n en (y_known (ty_var rfl) (ty_var rfl) (ty_var rfl) ⟨hw, sm⟩) hz q
end
def nE (cl : Str → Addr) (x : DU) := due cl x.d.whole "InvalidNumber" x
def kE (cl : Str → Addr) (x : DU) := due cl (wholesB x.d) "InvalidItems" x
def vE (cl : Str → Addr) (w : Int) (n : Nat) (x : DU) := due cl (wordsAtB w n x.d) "InvalidWords" x
def _root_.AP.Dat.lenD : AP.Dat → Nat
  | .lst ds => ds.length
  | _ => 0
section
variable {G : Option Addr} {c0 c1 c2 c3 c4 c5 c6 c7 : Nat} {t0 t1 t2 t3 t4 t5 t6 t7 : TE} {Γ : AP.Ctx} {g : Addr}
theorem z_is_whole {d : Dat} {E : XK} (h0 : AP.Ty G c0 t0 Γ (· = d)) : AP.Ty G ((c0 + 0) + 0) (tCall cWhole.sp [] E (tCons t0 tNil)) Γ (· = d.whole) := ty_call (C := cWhole) d (ta_cons h0 ta_nil) trivial
theorem z_are_words_at {wd : Int} {ps : (List Int)} {d : Dat} {E : XK} (h0 : AP.Ty G c0 t0 Γ (· = wd)) (h1 : AP.Ty G c1 t1 Γ (· = ps)) (h2 : AP.Ty G c2 t2 Γ (· = d)) (hpre : wOk wd ∧ d.small) : AP.Ty G ((c0 + (c1 + (c2 + 0))) + 0) (tCall cWordsAt.sp [] E (tCons t0 (tCons t1 (tCons t2 tNil)))) Γ (· = wordsAtB wd ps.length d) := ty_call (C := cWordsAt) (wd, ps, d) (ta_cons h0 (ta_cons h1 (ta_cons h2 ta_nil))) hpre
theorem z_fits_width {d : Dat} {E : XK} (h0 : AP.Ty G c0 t0 Γ (· = d)) : AP.Ty G ((c0 + 0) + 0) (tCall cFitsWidth.sp [] E (tCons t0 tNil)) Γ (· = d.within 1 64) := ty_call (C := cFitsWidth) d (ta_cons h0 ta_nil) trivial
theorem z_are_places {wd : Int} {d : Dat} {E : XK} (h0 : AP.Ty G c0 t0 Γ (· = wd)) (h1 : AP.Ty G c1 t1 Γ (· = d)) (hpre : wOk wd ∧ d.small) : AP.Ty G ((c0 + (c1 + 0)) + 0) (tCall cArePlaces.sp [] E (tCons t0 (tCons t1 tNil))) Γ (· = placesB wd d) := ty_call (C := cArePlaces) (wd, d) (ta_cons h0 (ta_cons h1 ta_nil)) hpre
theorem z_are_wholes {d : Dat} {E : XK} (h0 : AP.Ty G c0 t0 Γ (· = d)) (hpre : d.small) : AP.Ty G ((c0 + 0) + 0) (tCall cAreWholes.sp [] E (tCons t0 tNil)) Γ (· = wholesB d) := ty_call (C := cAreWholes) d (ta_cons h0 ta_nil) hpre
def cNeedWidthX (cl : Str → Addr) : AP.ConX DU Unit := { args := fun i => [Py.is i], pre := fun i G => True, c := fun _ => 0, post := fun i r => True, err := fun i => wE cl i }
theorem x_need_width {cl : Str → Addr} {wx : DU} {E : XK} (h0 : AP.Ty G c0 t0 Γ (· = wx)) : AP.TyX G ((c0 + 0) + 0) (tCall (cNeedWidthX cl).spX [] E (tCons t0 tNil)) Γ (fun r : Unit => (wE cl wx) = none ∧ (True)) (fun e => (wE cl wx) = some e) E := ty_callX (C := (cNeedWidthX cl)) wx (ta_cons h0 ta_nil) trivial
def cNeedPlacesX (cl : Str → Addr) : AP.ConX (Int × DU) Unit := { args := fun i => [Py.is i.1, Py.is i.2], pre := fun i G => wOk i.1 ∧ i.2.d.small, c := fun _ => 0, post := fun i r => True, err := fun i => pE cl i.1 i.2 }
theorem x_need_places {cl : Str → Addr} {wd : Int} {px : DU} {E : XK} (h0 : AP.Ty G c0 t0 Γ (· = wd)) (h1 : AP.Ty G c1 t1 Γ (· = px)) (hpre : wOk wd ∧ px.d.small) : AP.TyX G ((c0 + (c1 + 0)) + 0) (tCall (cNeedPlacesX cl).spX [] E (tCons t0 (tCons t1 tNil))) Γ (fun r : Unit => (pE cl wd px) = none ∧ (True)) (fun e => (pE cl wd px) = some e) E := ty_callX (C := (cNeedPlacesX cl)) (wd, px) (ta_cons h0 (ta_cons h1 ta_nil)) hpre
def cNeedWholeX (cl : Str → Addr) : AP.ConX DU Unit := { args := fun i => [Py.is i], pre := fun i G => True, c := fun _ => 0, post := fun i r => True, err := fun i => nE cl i }
theorem x_need_whole {cl : Str → Addr} {nx : DU} {E : XK} (h0 : AP.Ty G c0 t0 Γ (· = nx)) : AP.TyX G ((c0 + 0) + 0) (tCall (cNeedWholeX cl).spX [] E (tCons t0 tNil)) Γ (fun r : Unit => (nE cl nx) = none ∧ (True)) (fun e => (nE cl nx) = some e) E := ty_callX (C := (cNeedWholeX cl)) nx (ta_cons h0 ta_nil) trivial
def cNeedCoX (cl : Str → Addr) : AP.ConX DU Unit := { args := fun i => [Py.is i], pre := fun i G => i.d.small, c := fun _ => 0, post := fun i r => True, err := fun i => kE cl i }
theorem x_need_coefficients {cl : Str → Addr} {kx : DU} {E : XK} (h0 : AP.Ty G c0 t0 Γ (· = kx)) (hpre : kx.d.small) : AP.TyX G ((c0 + 0) + 0) (tCall (cNeedCoX cl).spX [] E (tCons t0 tNil)) Γ (fun r : Unit => (kE cl kx) = none ∧ (True)) (fun e => (kE cl kx) = some e) E := ty_callX (C := (cNeedCoX cl)) kx (ta_cons h0 ta_nil) hpre
def cNeedWordsX (cl : Str → Addr) : AP.ConX (Int × (List Int) × DU) Unit := { args := fun i => [Py.is i.1, Py.is i.2.1, Py.is i.2.2], pre := fun i G => wOk i.1 ∧ i.2.2.d.small, c := fun _ => 0, post := fun i r => True, err := fun i => vE cl i.1 i.2.1.length i.2.2 }
theorem x_need_words {cl : Str → Addr} {wd : Int} {ps : (List Int)} {vx : DU} {E : XK} (h0 : AP.Ty G c0 t0 Γ (· = wd)) (h1 : AP.Ty G c1 t1 Γ (· = ps)) (h2 : AP.Ty G c2 t2 Γ (· = vx)) (hpre : wOk wd ∧ vx.d.small) : AP.TyX G ((c0 + (c1 + (c2 + 0))) + 0) (tCall (cNeedWordsX cl).spX [] E (tCons t0 (tCons t1 (tCons t2 tNil)))) Γ (fun r : Unit => (vE cl wd ps.length vx) = none ∧ (True)) (fun e => (vE cl wd ps.length vx) = some e) E := ty_callX (C := (cNeedWordsX cl)) (wd, ps, vx) (ta_cons h0 (ta_cons h1 (ta_cons h2 ta_nil))) hpre
def cBadW (cl : Str → Addr) : AP.ConX (DU × DU) Bool := { args := fun i => [Py.is i.1, Py.is i.2], pre := fun i G => (wE cl i.1).isSome = true, c := fun _ => 0, post := fun i r => False, err := fun i => wE cl i.1 }
theorem x_is_word {cl : Str → Addr} {wx : DU} {vx : DU} {E : XK} (h0 : AP.Ty G c0 t0 Γ (· = wx)) (h1 : AP.Ty G c1 t1 Γ (· = vx)) (hpre : (wE cl wx).isSome = true) : AP.TyX G ((c0 + (c1 + 0)) + 0) (tCall (cBadW cl).spX [] E (tCons t0 (tCons t1 tNil))) Γ (fun r : Bool => (wE cl wx) = none ∧ (False)) (fun e => (wE cl wx) = some e) E := ty_callX (C := (cBadW cl)) (wx, vx) (ta_cons h0 (ta_cons h1 ta_nil)) hpre
theorem x_is_places {cl : Str → Addr} {wx : DU} {vx : DU} {E : XK} (h0 : AP.Ty G c0 t0 Γ (· = wx)) (h1 : AP.Ty G c1 t1 Γ (· = vx)) (hpre : (wE cl wx).isSome = true) : AP.TyX G ((c0 + (c1 + 0)) + 0) (tCall (cBadW cl).spX [] E (tCons t0 (tCons t1 tNil))) Γ (fun r : Bool => (wE cl wx) = none ∧ (False)) (fun e => (wE cl wx) = some e) E := ty_callX (C := (cBadW cl)) (wx, vx) (ta_cons h0 (ta_cons h1 ta_nil)) hpre
def cBadWP (cl : Str → Addr) : AP.ConX (DU × DU × DU) Bool := { args := fun i => [Py.is i.1, Py.is i.2.1, Py.is i.2.2], pre := fun i G => (thenE (wE cl i.1) (pE cl i.1.d.toI i.2.1)).isSome = true ∧ i.2.1.d.small, c := fun _ => 0, post := fun i r => False, err := fun i => thenE (wE cl i.1) (pE cl i.1.d.toI i.2.1) }
def cBadWordAt (cl : Str → Addr) : AP.ConX (DU × DU × DU) Int := { args := fun i => [Py.is i.1, Py.is i.2.1, Py.is i.2.2], pre := fun i G => (thenE (wE cl i.1) (thenE (kE cl i.2.1) (nE cl i.2.2))).isSome = true ∧ i.2.1.d.small, c := fun _ => 0, post := fun i r => False, err := fun i => thenE (wE cl i.1) (thenE (kE cl i.2.1) (nE cl i.2.2)) }
def cBadWordsAt (cl : Str → Addr) : AP.ConX (DU × DU × DU) (List Int) := { args := fun i => [Py.is i.1, Py.is i.2.1, Py.is i.2.2], pre := fun i G => (thenE (wE cl i.1) (thenE (kE cl i.2.1) (pE cl i.1.d.toI i.2.2))).isSome = true ∧ i.2.1.d.small ∧ i.2.2.d.small, c := fun _ => 0, post := fun i r => False, err := fun i => thenE (wE cl i.1) (thenE (kE cl i.2.1) (pE cl i.1.d.toI i.2.2)) }
def cBadParting (cl : Str → Addr) : AP.ConX (DU × DU × DU × DU) (List Int) := { args := fun i => [Py.is i.1, Py.is i.2.1, Py.is i.2.2.1, Py.is i.2.2.2], pre := fun i G => (thenE (wE cl i.1) (thenE (pE cl i.1.d.toI i.2.1) (thenE (vE cl i.1.d.toI i.2.1.d.lenD i.2.2.1) (vE cl i.1.d.toI i.2.1.d.lenD i.2.2.2)))).isSome = true ∧ i.2.1.d.small ∧ i.2.2.1.d.small ∧ i.2.2.2.d.small, c := fun _ => 0, post := fun i r => False, err := fun i => thenE (wE cl i.1) (thenE (pE cl i.1.d.toI i.2.1) (thenE (vE cl i.1.d.toI i.2.1.d.lenD i.2.2.1) (vE cl i.1.d.toI i.2.1.d.lenD i.2.2.2))) }
theorem x_parting_places {cl : Str → Addr} {wx : DU} {px : DU} {ax : DU} {bx : DU} {E : XK} (h0 : AP.Ty G c0 t0 Γ (· = wx)) (h1 : AP.Ty G c1 t1 Γ (· = px)) (h2 : AP.Ty G c2 t2 Γ (· = ax)) (h3 : AP.Ty G c3 t3 Γ (· = bx)) (hpre : (thenE (wE cl wx) (thenE (pE cl wx.d.toI px) (thenE (vE cl wx.d.toI px.d.lenD ax) (vE cl wx.d.toI px.d.lenD bx)))).isSome = true ∧ px.d.small ∧ ax.d.small ∧ bx.d.small) : AP.TyX G ((c0 + (c1 + (c2 + (c3 + 0)))) + 0) (tCall (cBadParting cl).spX [] E (tCons t0 (tCons t1 (tCons t2 (tCons t3 tNil))))) Γ (fun r : (List Int) => (thenE (wE cl wx) (thenE (pE cl wx.d.toI px) (thenE (vE cl wx.d.toI px.d.lenD ax) (vE cl wx.d.toI px.d.lenD bx)))) = none ∧ (False)) (fun e => (thenE (wE cl wx) (thenE (pE cl wx.d.toI px) (thenE (vE cl wx.d.toI px.d.lenD ax) (vE cl wx.d.toI px.d.lenD bx)))) = some e) E := ty_callX (C := (cBadParting cl)) (wx, px, ax, bx) (ta_cons h0 (ta_cons h1 (ta_cons h2 (ta_cons h3 ta_nil)))) hpre
def cBadTwosIn (cl : Str → Addr) : AP.ConX DU Int := { args := fun i => [Py.is i], pre := fun i G => (nE cl i).isSome = true, c := fun _ => 0, post := fun i r => False, err := fun i => nE cl i }
theorem x_twos_in {cl : Str → Addr} {nx : DU} {E : XK} (h0 : AP.Ty G c0 t0 Γ (· = nx)) (hpre : (nE cl nx).isSome = true) : AP.TyX G ((c0 + 0) + 0) (tCall (cBadTwosIn cl).spX [] E (tCons t0 tNil)) Γ (fun r : Int => (nE cl nx) = none ∧ (False)) (fun e => (nE cl nx) = some e) E := ty_callX (C := (cBadTwosIn cl)) nx (ta_cons h0 ta_nil) hpre
end
section
variable {P : Program} {w : World} {K : PySem.W.Frag} {mg : Str → Option Value} {base : Heap}
theorem okX_need_width {f : Addr} {fd : FuncData} {cl : Str → Addr} (F : Df K "need_width" "need_width" sneed_width [] f fd) (T : TN mg)  (Ffits_width : Fo P w K mg base "fits_width" 3 ["value"] cFitsWidth.sp) (MInvalidWidth : Mk P w K mg base "InvalidWidth" (cl "InvalidWidth")) :
    FnOk P w K mg base (L2.CX P w) 4 f fd ["width"] (cNeedWidthX cl).spX := by
  refine con_goX F scneed_width (cNeedWidthX cl) (fun _ => rfl) fun cdv A outer s H E i G z0 B0 hr hp at0 hz tk => ⟨_, (pss_one (ps_if (pt_not (pt_val (pe_fo Ffits_width (hr.mono (by decide)) (by rfl) (pa_cons (pv 0) pa_nil)))) (pss_one (ps_raiseX MInvalidWidth rfl (hr.mono (by decide)) tk (by rfl) (pv 0))) pss_nil)), fun σ Q en q qE => ?_⟩
  obtain ⟨wx, rfl⟩ : ∃ a, a = i := ⟨_, rfl⟩
  have hp : True := hp
  have qE : ∀ e, (wE cl wx) = some e → ∀ d z' B' H', Nx G 0 z0 B0 H z' B' H' → B' d = some (.xd [("value", e.2)]) → E (.ref e.1) (some d) H' := qE
  have q : (wE cl wx) = none → ∀ y w z' B' H', (fun r => True) y → Nx G 0 z0 B0 H z' B' H' → Py.is y w B' → Q w H' := q
  have hz1 : z0 + (0 : Nat) ≤ 2 ^ 50 := hz
  have n := Nx.refl at0
  refine q_ite at0 n en (tt_notD (tt_B (z_fits_width (ty_var (x := wx) rfl).du))) (by omega) (fun hb z' B' H' s n en => ?_) (fun hb z' B' H' s n en => ?_)
  · refine q_raise at0 n en (ty_var (x := wx) rfl) (by omega) fun x v d z' B' H' ex hv nE hd => ?_
    subst ex
    obtain ⟨hu, _⟩ := hv
    subst hu
    exact qE (_, _) (due_no (bnot_t hb)) d z' B' H' (nE.le (by show _ ≤ 0; omega)) hd
  · exact q (due_yes (bnot_f hb)) () .non _ _ _ trivial (n.le (by show _ ≤ 0; omega)) rfl
theorem okX_need_places {f : Addr} {fd : FuncData} {cl : Str → Addr} (F : Df K "need_places" "need_places" sneed_places [] f fd) (T : TN mg)  (Fare_places : Fo P w K mg base "are_places" 5 ["width", "value"] cArePlaces.sp) (MInvalidPlaces : Mk P w K mg base "InvalidPlaces" (cl "InvalidPlaces")) :
    FnOk P w K mg base (L2.CX P w) 6 f fd ["width", "places"] (cNeedPlacesX cl).spX := by
  refine con_goX F scneed_places (cNeedPlacesX cl) (fun _ => rfl) fun cdv A outer s H E i G z0 B0 hr hp at0 hz tk => ⟨_, (pss_one (ps_if (pt_not (pt_val (pe_fo Fare_places (hr.mono (by decide)) (by rfl) (pa_cons (pv 0) (pa_cons (pv 1) pa_nil))))) (pss_one (ps_raiseX MInvalidPlaces rfl (hr.mono (by decide)) tk (by rfl) (pv 1))) pss_nil)), fun σ Q en q qE => ?_⟩
  obtain ⟨wd, px⟩ := i
  have hp : wOk wd ∧ px.d.small := hp
  have qE : ∀ e, (pE cl wd px) = some e → ∀ d z' B' H', Nx G 0 z0 B0 H z' B' H' → B' d = some (.xd [("value", e.2)]) → E (.ref e.1) (some d) H' := qE
  have q : (pE cl wd px) = none → ∀ y w z' B' H', (fun r => True) y → Nx G 0 z0 B0 H z' B' H' → Py.is y w B' → Q w H' := q
  have hz1 : z0 + (0 : Nat) ≤ 2 ^ 50 := hz
  have n := Nx.refl at0
  refine q_ite at0 n en (tt_notD (tt_B (z_are_places (ty_var (x := wd) rfl) (ty_var (x := px) rfl).du hp))) (by omega) (fun hb z' B' H' s n en => ?_) (fun hb z' B' H' s n en => ?_)
  · refine q_raise at0 n en (ty_var (x := px) rfl) (by omega) fun x v d z' B' H' ex hv nE hd => ?_
    subst ex
    obtain ⟨hu, _⟩ := hv
    subst hu
    exact qE (_, _) (due_no (bnot_t hb)) d z' B' H' (nE.le (by show _ ≤ 0; omega)) hd
  · exact q (due_yes (bnot_f hb)) () .non _ _ _ trivial (n.le (by show _ ≤ 0; omega)) rfl
abbrev sneed_whole : Stmt := topS 25
theorem scneed_whole : FnScope ["number"] ["number"] (defScope sneed_whole) := ⟨rfl, rfl, rfl, by decide +kernel, rfl, by decide +kernel, by decide +kernel⟩
theorem okX_need_whole {f : Addr} {fd : FuncData} {cl : Str → Addr} (F : Df K "need_whole" "need_whole" sneed_whole [] f fd) (T : TN mg)  (Fis_whole : Fo P w K mg base "is_whole" 1 ["value"] cWhole.sp) (MInvalidNumber : Mk P w K mg base "InvalidNumber" (cl "InvalidNumber")) :
    FnOk P w K mg base (L2.CX P w) 3 f fd ["number"] (cNeedWholeX cl).spX := by
  refine con_goX F scneed_whole (cNeedWholeX cl) (fun _ => rfl) fun cdv A outer s H E i G z0 B0 hr hp at0 hz tk => ⟨_, (pss_one (ps_if (pt_not (pt_val (pe_fo Fis_whole (hr.mono (by decide)) (by rfl) (pa_cons (pv 0) pa_nil)))) (pss_one (ps_raiseX MInvalidNumber rfl (hr.mono (by decide)) tk (by rfl) (pv 0))) pss_nil)), fun σ Q en q qE => ?_⟩
  obtain ⟨nx, rfl⟩ : ∃ a, a = i := ⟨_, rfl⟩
  have hp : True := hp
  have qE : ∀ e, (nE cl nx) = some e → ∀ d z' B' H', Nx G 0 z0 B0 H z' B' H' → B' d = some (.xd [("value", e.2)]) → E (.ref e.1) (some d) H' := qE
  have q : (nE cl nx) = none → ∀ y w z' B' H', (fun r => True) y → Nx G 0 z0 B0 H z' B' H' → Py.is y w B' → Q w H' := q
  have hz1 : z0 + (0 : Nat) ≤ 2 ^ 50 := hz
  have n := Nx.refl at0
  refine q_ite at0 n en (tt_notD (tt_B (z_is_whole (ty_var (x := nx) rfl).du))) (by omega) (fun hb z' B' H' s n en => ?_) (fun hb z' B' H' s n en => ?_)
  · refine q_raise at0 n en (ty_var (x := nx) rfl) (by omega) fun x v d z' B' H' ex hv nE hd => ?_
    subst ex
    obtain ⟨hu, _⟩ := hv
    subst hu
    exact qE (_, _) (due_no (bnot_t hb)) d z' B' H' (nE.le (by show _ ≤ 0; omega)) hd
  · exact q (due_yes (bnot_f hb)) () .non _ _ _ trivial (n.le (by show _ ≤ 0; omega)) rfl
abbrev sneed_coefficients : Stmt := topS 33
theorem scneed_coefficients : FnScope ["coefficients"] ["coefficients"] (defScope sneed_coefficients) := ⟨rfl, rfl, rfl, by decide +kernel, rfl, by decide +kernel, by decide +kernel⟩
theorem okX_need_coefficients {f : Addr} {fd : FuncData} {cl : Str → Addr} (F : Df K "need_coefficients" "need_coefficients" sneed_coefficients [] f fd) (T : TN mg)  (Fare_wholes : Fo P w K mg base "are_wholes" 2 ["value"] cAreWholes.sp) (MInvalidItems : Mk P w K mg base "InvalidItems" (cl "InvalidItems")) :
    FnOk P w K mg base (L2.CX P w) 4 f fd ["coefficients"] (cNeedCoX cl).spX := by
  refine con_goX F scneed_coefficients (cNeedCoX cl) (fun _ => rfl) fun cdv A outer s H E i G z0 B0 hr hp at0 hz tk => ⟨_, (pss_one (ps_if (pt_not (pt_val (pe_fo Fare_wholes (hr.mono (by decide)) (by rfl) (pa_cons (pv 0) pa_nil)))) (pss_one (ps_raiseX MInvalidItems rfl (hr.mono (by decide)) tk (by rfl) (pv 0))) pss_nil)), fun σ Q en q qE => ?_⟩
  obtain ⟨kx, rfl⟩ : ∃ a, a = i := ⟨_, rfl⟩
  have hp : kx.d.small := hp
  have qE : ∀ e, (kE cl kx) = some e → ∀ d z' B' H', Nx G 0 z0 B0 H z' B' H' → B' d = some (.xd [("value", e.2)]) → E (.ref e.1) (some d) H' := qE
  have q : (kE cl kx) = none → ∀ y w z' B' H', (fun r => True) y → Nx G 0 z0 B0 H z' B' H' → Py.is y w B' → Q w H' := q
  have hz1 : z0 + (0 : Nat) ≤ 2 ^ 50 := hz
  have n := Nx.refl at0
  refine q_ite at0 n en (tt_notD (tt_B (z_are_wholes (ty_var (x := kx) rfl).du hp))) (by omega) (fun hb z' B' H' s n en => ?_) (fun hb z' B' H' s n en => ?_)
  · refine q_raise at0 n en (ty_var (x := kx) rfl) (by omega) fun x v d z' B' H' ex hv nE hd => ?_
    subst ex
    obtain ⟨hu, _⟩ := hv
    subst hu
    exact qE (_, _) (due_no (bnot_t hb)) d z' B' H' (nE.le (by show _ ≤ 0; omega)) hd
  · exact q (due_yes (bnot_f hb)) () .non _ _ _ trivial (n.le (by show _ ≤ 0; omega)) rfl
abbrev sneed_words : Stmt := topS 26
theorem scneed_words : FnScope ["width", "places", "words"] ["width", "places", "words"] (defScope sneed_words) := ⟨rfl, rfl, rfl, by decide +kernel, rfl, by decide +kernel, by decide +kernel⟩
theorem okX_need_words {f : Addr} {fd : FuncData} {cl : Str → Addr} (F : Df K "need_words" "need_words" sneed_words [] f fd) (T : TN mg)  (Fare_words_at : Fo P w K mg base "are_words_at" 5 ["width", "places", "value"] cWordsAt.sp) (MInvalidWords : Mk P w K mg base "InvalidWords" (cl "InvalidWords")) :
    FnOk P w K mg base (L2.CX P w) 6 f fd ["width", "places", "words"] (cNeedWordsX cl).spX := by
  refine con_goX F scneed_words (cNeedWordsX cl) (fun _ => rfl) fun cdv A outer s H E i G z0 B0 hr hp at0 hz tk => ⟨_, (pss_one (ps_if (pt_not (pt_val (pe_fo Fare_words_at (hr.mono (by decide)) (by rfl) (pa_cons (pv 0) (pa_cons (pv 1) (pa_cons (pv 2) pa_nil)))))) (pss_one (ps_raiseX MInvalidWords rfl (hr.mono (by decide)) tk (by rfl) (pv 2))) pss_nil)), fun σ Q en q qE => ?_⟩
  obtain ⟨wd, ps, vx⟩ := i
  have hp : wOk wd ∧ vx.d.small := hp
  have qE : ∀ e, (vE cl wd ps.length vx) = some e → ∀ d z' B' H', Nx G 0 z0 B0 H z' B' H' → B' d = some (.xd [("value", e.2)]) → E (.ref e.1) (some d) H' := qE
  have q : (vE cl wd ps.length vx) = none → ∀ y w z' B' H', (fun r => True) y → Nx G 0 z0 B0 H z' B' H' → Py.is y w B' → Q w H' := q
  have hz1 : z0 + (0 : Nat) ≤ 2 ^ 50 := hz
  have n := Nx.refl at0
  refine q_ite at0 n en (tt_notD (tt_B (z_are_words_at (ty_var (x := wd) rfl) (ty_var (x := ps) rfl) (ty_var (x := vx) rfl).du hp))) (by omega) (fun hb z' B' H' s n en => ?_) (fun hb z' B' H' s n en => ?_)
  · refine q_raise at0 n en (ty_var (x := vx) rfl) (by omega) fun x v d z' B' H' ex hv nE hd => ?_
    subst ex
    obtain ⟨hu, _⟩ := hv
    subst hu
    exact qE (_, _) (due_no (bnot_t hb)) d z' B' H' (nE.le (by show _ ≤ 0; omega)) hd
  · exact q (due_yes (bnot_f hb)) () .non _ _ _ trivial (n.le (by show _ ≤ 0; omega)) rfl
theorem okX_is_word {f : Addr} {fd : FuncData} {cl : Str → Addr} (F : Df K "is_word" "is_word" sis_word [] f fd) (T : TN mg)  (FXneed_width : FoX P w K mg base "need_width" 4 ["width"] (cNeedWidthX cl).spX) :
    FnOk P w K mg base (L2.CX P w) 7 f fd ["width", "value"] (cBadW cl).spX := by
  refine con_goX F scis_word (cBadW cl) (fun _ => rfl) fun cdv A outer s H E i G z0 B0 hr hp at0 hz tk => ⟨_, (pss_cons (ps_expr (pe_foX FXneed_width (hr.mono (by decide)) tk (by rfl) (pa_cons (pv 0) pa_nil)))
     pss_never), fun σ Q en q qE => ?_⟩
  obtain ⟨wx, vx⟩ := i
  have hp : (wE cl wx).isSome = true := hp
  have qE : ∀ e, (wE cl wx) = some e → ∀ d z' B' H', Nx G 0 z0 B0 H z' B' H' → B' d = some (.xd [("value", e.2)]) → E (.ref e.1) (some d) H' := qE
  have q : (wE cl wx) = none → ∀ y w z' B' H', (fun r => False) y → Nx G 0 z0 B0 H z' B' H' → Py.is y w B' → Q w H' := q
  have hz1 : z0 + (0 : Nat) ≤ 2 ^ 50 := hz
  have n := Nx.refl at0
  refine q_dropXS at0 n en (x_need_width (cl := cl) (ty_var (x := wx) rfl)) (by omega) (fun e he d z' B' H' nE hd => qE e he d z' B' H' (nE.le (by show _ ≤ 0; omega)) hd) (fun _ z' B' H' okx s n en => ?_)
  rw [okx.1] at hp
  cases hp
abbrev sis_places : Stmt := topS 29
theorem scis_places : FnScope ["width", "value"] ["width", "value"] (defScope sis_places) := ⟨rfl, rfl, rfl, by decide +kernel, rfl, by decide +kernel, by decide +kernel⟩
theorem okX_is_places {f : Addr} {fd : FuncData} {cl : Str → Addr} (F : Df K "is_places" "is_places" sis_places [] f fd) (T : TN mg)  (FXneed_width : FoX P w K mg base "need_width" 4 ["width"] (cNeedWidthX cl).spX) :
    FnOk P w K mg base (L2.CX P w) 7 f fd ["width", "value"] (cBadW cl).spX := by
  refine con_goX F scis_places (cBadW cl) (fun _ => rfl) fun cdv A outer s H E i G z0 B0 hr hp at0 hz tk => ⟨_, (pss_cons (ps_expr (pe_foX FXneed_width (hr.mono (by decide)) tk (by rfl) (pa_cons (pv 0) pa_nil)))
     pss_never), fun σ Q en q qE => ?_⟩
  obtain ⟨wx, vx⟩ := i
  have hp : (wE cl wx).isSome = true := hp
  have qE : ∀ e, (wE cl wx) = some e → ∀ d z' B' H', Nx G 0 z0 B0 H z' B' H' → B' d = some (.xd [("value", e.2)]) → E (.ref e.1) (some d) H' := qE
  have q : (wE cl wx) = none → ∀ y w z' B' H', (fun r => False) y → Nx G 0 z0 B0 H z' B' H' → Py.is y w B' → Q w H' := q
  have hz1 : z0 + (0 : Nat) ≤ 2 ^ 50 := hz
  have n := Nx.refl at0
  refine q_dropXS at0 n en (x_need_width (cl := cl) (ty_var (x := wx) rfl)) (by omega) (fun e he d z' B' H' nE hd => qE e he d z' B' H' (nE.le (by show _ ≤ 0; omega)) hd) (fun _ z' B' H' okx s n en => ?_)
  rw [okx.1] at hp
  cases hp
theorem okX_is_words {f : Addr} {fd : FuncData} {cl : Str → Addr} (F : Df K "is_words" "is_words" sis_words [] f fd) (T : TN mg)  (FXneed_width : FoX P w K mg base "need_width" 4 ["width"] (cNeedWidthX cl).spX) (FXneed_places : FoX P w K mg base "need_places" 6 ["width", "places"] (cNeedPlacesX cl).spX) :
    FnOk P w K mg base (L2.CX P w) 7 f fd ["width", "places", "value"] (cBadWP cl).spX := by
  refine con_goX F scis_words (cBadWP cl) (fun _ => rfl) fun cdv A outer s H E i G z0 B0 hr hp at0 hz tk => ⟨_, (pss_cons (ps_expr (pe_foX FXneed_width (hr.mono (by decide)) tk (by rfl) (pa_cons (pv 0) pa_nil)))
     (pss_cons (ps_expr (pe_foX FXneed_places (hr.mono (by decide)) tk (by rfl) (pa_cons (pv 0) (pa_cons (pv 1) pa_nil))))
     pss_never)), fun σ Q en q qE => ?_⟩
  obtain ⟨wx, px, vx⟩ := i
  have hp : (thenE (wE cl wx) (pE cl wx.d.toI px)).isSome = true ∧ px.d.small := hp
  have qE : ∀ e, (thenE (wE cl wx) (pE cl wx.d.toI px)) = some e → ∀ d z' B' H', Nx G 0 z0 B0 H z' B' H' → B' d = some (.xd [("value", e.2)]) → E (.ref e.1) (some d) H' := qE
  have q : (thenE (wE cl wx) (pE cl wx.d.toI px)) = none → ∀ y w z' B' H', (fun r => False) y → Nx G 0 z0 B0 H z' B' H' → Py.is y w B' → Q w H' := q
  have hz1 : z0 + (0 : Nat) ≤ 2 ^ 50 := hz
  have n := Nx.refl at0
  refine q_dropXS at0 n en (x_need_width (cl := cl) (ty_var (x := wx) rfl)) (by omega) (fun e he d z' B' H' nE hd => qE e (thenE_1 he) d z' B' H' (nE.le (by show _ ≤ 0; omega)) hd) (fun _ z' B' H' okx s n en => ?_)
  obtain ⟨wd, ewd, hwd⟩ := wE_ok okx.1
  have e1 := okx.1
  have e0 : wx.d.toI = wd := by rw [ewd]; rfl
  refine q_dropXS at0 n en (x_need_places (cl := cl) ((ty_var (x := wx) rfl).duInt ewd) (ty_var (x := px) rfl) ⟨hwd, hp.2⟩) (by omega) (fun e he d z' B' H' nE hd => qE e ((thenE_2 e1).trans (by rw [e0]; exact he)) d z' B' H' (nE.le (by show _ ≤ 0; omega)) hd) (fun _ z' B' H' okx s n en => ?_)
  have z := hp.1
  rw [thenE_2 e1, e0, okx.1] at z
  cases z
theorem okX_is_known {f : Addr} {fd : FuncData} {cl : Str → Addr} (F : Df K "is_known" "is_known" sis_known [] f fd) (T : TN mg)  (FXneed_width : FoX P w K mg base "need_width" 4 ["width"] (cNeedWidthX cl).spX) (FXneed_places : FoX P w K mg base "need_places" 6 ["width", "places"] (cNeedPlacesX cl).spX) :
    FnOk P w K mg base (L2.CX P w) 7 f fd ["width", "places", "value"] (cBadWP cl).spX := by
  refine con_goX F scis_known (cBadWP cl) (fun _ => rfl) fun cdv A outer s H E i G z0 B0 hr hp at0 hz tk => ⟨_, (pss_cons (ps_expr (pe_foX FXneed_width (hr.mono (by decide)) tk (by rfl) (pa_cons (pv 0) pa_nil)))
     (pss_cons (ps_expr (pe_foX FXneed_places (hr.mono (by decide)) tk (by rfl) (pa_cons (pv 0) (pa_cons (pv 1) pa_nil))))
     pss_never)), fun σ Q en q qE => ?_⟩
  obtain ⟨wx, px, vx⟩ := i
  have hp : (thenE (wE cl wx) (pE cl wx.d.toI px)).isSome = true ∧ px.d.small := hp
  have qE : ∀ e, (thenE (wE cl wx) (pE cl wx.d.toI px)) = some e → ∀ d z' B' H', Nx G 0 z0 B0 H z' B' H' → B' d = some (.xd [("value", e.2)]) → E (.ref e.1) (some d) H' := qE
  have q : (thenE (wE cl wx) (pE cl wx.d.toI px)) = none → ∀ y w z' B' H', (fun r => False) y → Nx G 0 z0 B0 H z' B' H' → Py.is y w B' → Q w H' := q
  have hz1 : z0 + (0 : Nat) ≤ 2 ^ 50 := hz
  have n := Nx.refl at0
  refine q_dropXS at0 n en (x_need_width (cl := cl) (ty_var (x := wx) rfl)) (by omega) (fun e he d z' B' H' nE hd => qE e (thenE_1 he) d z' B' H' (nE.le (by show _ ≤ 0; omega)) hd) (fun _ z' B' H' okx s n en => ?_)
  obtain ⟨wd, ewd, hwd⟩ := wE_ok okx.1
  have e1 := okx.1
  have e0 : wx.d.toI = wd := by rw [ewd]; rfl
  refine q_dropXS at0 n en (x_need_places (cl := cl) ((ty_var (x := wx) rfl).duInt ewd) (ty_var (x := px) rfl) ⟨hwd, hp.2⟩) (by omega) (fun e he d z' B' H' nE hd => qE e ((thenE_2 e1).trans (by rw [e0]; exact he)) d z' B' H' (nE.le (by show _ ≤ 0; omega)) hd) (fun _ z' B' H' okx s n en => ?_)
  have z := hp.1
  rw [thenE_2 e1, e0, okx.1] at z
  cases z
abbrev sword_at : Stmt := topS 35
theorem scword_at : FnScope ["width", "coefficients", "number"] ["width", "coefficients", "number"] (defScope sword_at) := ⟨rfl, rfl, rfl, by decide +kernel, rfl, by decide +kernel, by decide +kernel⟩
theorem okX_word_at {f : Addr} {fd : FuncData} {cl : Str → Addr} (F : Df K "word_at" "word_at" sword_at [] f fd) (T : TN mg)  (FXneed_width : FoX P w K mg base "need_width" 4 ["width"] (cNeedWidthX cl).spX) (FXneed_coefficients : FoX P w K mg base "need_coefficients" 4 ["coefficients"] (cNeedCoX cl).spX) (FXneed_whole : FoX P w K mg base "need_whole" 3 ["number"] (cNeedWholeX cl).spX) :
    FnOk P w K mg base (L2.CX P w) 7 f fd ["width", "coefficients", "number"] (cBadWordAt cl).spX := by
  refine con_goX F scword_at (cBadWordAt cl) (fun _ => rfl) fun cdv A outer s H E i G z0 B0 hr hp at0 hz tk => ⟨_, (pss_cons (ps_expr (pe_foX FXneed_width (hr.mono (by decide)) tk (by rfl) (pa_cons (pv 0) pa_nil)))
     (pss_cons (ps_expr (pe_foX FXneed_coefficients (hr.mono (by decide)) tk (by rfl) (pa_cons (pv 1) pa_nil)))
     (pss_cons (ps_expr (pe_foX FXneed_whole (hr.mono (by decide)) tk (by rfl) (pa_cons (pv 2) pa_nil)))
     pss_never))), fun σ Q en q qE => ?_⟩
  obtain ⟨wx, kx, nx⟩ := i
  have hp : (thenE (wE cl wx) (thenE (kE cl kx) (nE cl nx))).isSome = true ∧ kx.d.small := hp
  have qE : ∀ e, (thenE (wE cl wx) (thenE (kE cl kx) (nE cl nx))) = some e → ∀ d z' B' H', Nx G 0 z0 B0 H z' B' H' → B' d = some (.xd [("value", e.2)]) → E (.ref e.1) (some d) H' := qE
  have q : (thenE (wE cl wx) (thenE (kE cl kx) (nE cl nx))) = none → ∀ y w z' B' H', (fun r => False) y → Nx G 0 z0 B0 H z' B' H' → Py.is y w B' → Q w H' := q
  have hz1 : z0 + (0 : Nat) ≤ 2 ^ 50 := hz
  have n := Nx.refl at0
  refine q_dropXS at0 n en (x_need_width (cl := cl) (ty_var (x := wx) rfl)) (by omega) (fun e he d z' B' H' nE hd => qE e (thenE_1 he) d z' B' H' (nE.le (by show _ ≤ 0; omega)) hd) (fun _ z' B' H' okx s n en => ?_)
  obtain ⟨wd, ewd, hwd⟩ := wE_ok okx.1
  have e1 := okx.1
  have e0 : wx.d.toI = wd := by rw [ewd]; rfl
  refine q_dropXS at0 n en (x_need_coefficients (cl := cl) (ty_var (x := kx) rfl) hp.2) (by omega) (fun e he d z' B' H' nE hd => qE e ((thenE_2 e1).trans (thenE_1 he)) d z' B' H' (nE.le (by show _ ≤ 0; omega)) hd) (fun _ z' B' H' okx s n en => ?_)
  have e2 := okx.1
  refine q_dropXS at0 n en (x_need_whole (cl := cl) (ty_var (x := nx) rfl)) (by omega) (fun e he d z' B' H' nE hd => qE e ((thenE_2 e1).trans ((thenE_2 e2).trans he)) d z' B' H' (nE.le (by show _ ≤ 0; omega)) hd) (fun _ z' B' H' okx s n en => ?_)
  have z := hp.1
  rw [thenE_2 e1, thenE_2 e2, okx.1] at z
  cases z
abbrev swords_at : Stmt := topS 36
theorem scwords_at : FnScope ["width", "coefficients", "places", "place"] ["width", "coefficients", "places"] (defScope swords_at) := ⟨rfl, rfl, rfl, by decide +kernel, rfl, by decide +kernel, by decide +kernel⟩
theorem okX_words_at {f : Addr} {fd : FuncData} {cl : Str → Addr} (F : Df K "words_at" "words_at" swords_at [] f fd) (T : TN mg)  (FXneed_width : FoX P w K mg base "need_width" 4 ["width"] (cNeedWidthX cl).spX) (FXneed_coefficients : FoX P w K mg base "need_coefficients" 4 ["coefficients"] (cNeedCoX cl).spX) (FXneed_places : FoX P w K mg base "need_places" 6 ["width", "places"] (cNeedPlacesX cl).spX) :
    FnOk P w K mg base (L2.CX P w) 7 f fd ["width", "coefficients", "places"] (cBadWordsAt cl).spX := by
  refine con_goX F scwords_at (cBadWordsAt cl) (fun _ => rfl) fun cdv A outer s H E i G z0 B0 hr hp at0 hz tk => ⟨_, (pss_cons (ps_expr (pe_foX FXneed_width (hr.mono (by decide)) tk (by rfl) (pa_cons (pv 0) pa_nil)))
     (pss_cons (ps_expr (pe_foX FXneed_coefficients (hr.mono (by decide)) tk (by rfl) (pa_cons (pv 1) pa_nil)))
     (pss_cons (ps_expr (pe_foX FXneed_places (hr.mono (by decide)) tk (by rfl) (pa_cons (pv 0) (pa_cons (pv 2) pa_nil))))
     pss_never))), fun σ Q en q qE => ?_⟩
  obtain ⟨wx, kx, px⟩ := i
  have hp : (thenE (wE cl wx) (thenE (kE cl kx) (pE cl wx.d.toI px))).isSome = true ∧ kx.d.small ∧ px.d.small := hp
  have qE : ∀ e, (thenE (wE cl wx) (thenE (kE cl kx) (pE cl wx.d.toI px))) = some e → ∀ d z' B' H', Nx G 0 z0 B0 H z' B' H' → B' d = some (.xd [("value", e.2)]) → E (.ref e.1) (some d) H' := qE
  have q : (thenE (wE cl wx) (thenE (kE cl kx) (pE cl wx.d.toI px))) = none → ∀ y w z' B' H', (fun r => False) y → Nx G 0 z0 B0 H z' B' H' → Py.is y w B' → Q w H' := q
  have hz1 : z0 + (0 : Nat) ≤ 2 ^ 50 := hz
  have n := Nx.refl at0
  refine q_dropXS at0 n en (x_need_width (cl := cl) (ty_var (x := wx) rfl)) (by omega) (fun e he d z' B' H' nE hd => qE e (thenE_1 he) d z' B' H' (nE.le (by show _ ≤ 0; omega)) hd) (fun _ z' B' H' okx s n en => ?_)
  obtain ⟨wd, ewd, hwd⟩ := wE_ok okx.1
  have e1 := okx.1
  have e0 : wx.d.toI = wd := by rw [ewd]; rfl
  refine q_dropXS at0 n en (x_need_coefficients (cl := cl) (ty_var (x := kx) rfl) hp.2.1) (by omega) (fun e he d z' B' H' nE hd => qE e ((thenE_2 e1).trans (thenE_1 he)) d z' B' H' (nE.le (by show _ ≤ 0; omega)) hd) (fun _ z' B' H' okx s n en => ?_)
  have e2 := okx.1
  refine q_dropXS at0 n en (x_need_places (cl := cl) ((ty_var (x := wx) rfl).duInt ewd) (ty_var (x := px) rfl) ⟨hwd, hp.2.2⟩) (by omega) (fun e he d z' B' H' nE hd => qE e ((thenE_2 e1).trans ((thenE_2 e2).trans (by rw [e0]; exact he))) d z' B' H' (nE.le (by show _ ≤ 0; omega)) hd) (fun _ z' B' H' okx s n en => ?_)
  have z := hp.1
  rw [thenE_2 e1, thenE_2 e2, e0, okx.1] at z
  cases z
abbrev sparting_places : Stmt := topS 37
theorem scparting_places : FnScope ["width", "places", "words", "others", "place", "word", "other"] ["width", "places", "words", "others"] (defScope sparting_places) := ⟨rfl, rfl, rfl, by decide +kernel, rfl, by decide +kernel, by decide +kernel⟩
theorem okX_parting_places {f : Addr} {fd : FuncData} {cl : Str → Addr} (F : Df K "parting_places" "parting_places" sparting_places [] f fd) (T : TN mg)  (FXneed_width : FoX P w K mg base "need_width" 4 ["width"] (cNeedWidthX cl).spX) (FXneed_places : FoX P w K mg base "need_places" 6 ["width", "places"] (cNeedPlacesX cl).spX) (FXneed_words : FoX P w K mg base "need_words" 6 ["width", "places", "words"] (cNeedWordsX cl).spX) :
    FnOk P w K mg base (L2.CX P w) 7 f fd ["width", "places", "words", "others"] (cBadParting cl).spX := by
  refine con_goX F scparting_places (cBadParting cl) (fun _ => rfl) fun cdv A outer s H E i G z0 B0 hr hp at0 hz tk => ⟨_, (pss_cons (ps_expr (pe_foX FXneed_width (hr.mono (by decide)) tk (by rfl) (pa_cons (pv 0) pa_nil)))
     (pss_cons (ps_expr (pe_foX FXneed_places (hr.mono (by decide)) tk (by rfl) (pa_cons (pv 0) (pa_cons (pv 1) pa_nil))))
     (pss_cons (ps_expr (pe_foX FXneed_words (hr.mono (by decide)) tk (by rfl) (pa_cons (pv 0) (pa_cons (pv 1) (pa_cons (pv 2) pa_nil)))))
     (pss_cons (ps_expr (pe_foX FXneed_words (hr.mono (by decide)) tk (by rfl) (pa_cons (pv 0) (pa_cons (pv 1) (pa_cons (pv 3) pa_nil)))))
     pss_never)))), fun σ Q en q qE => ?_⟩
  obtain ⟨wx, px, ax, bx⟩ := i
  have hp : (thenE (wE cl wx) (thenE (pE cl wx.d.toI px) (thenE (vE cl wx.d.toI px.d.lenD ax) (vE cl wx.d.toI px.d.lenD bx)))).isSome = true ∧ px.d.small ∧ ax.d.small ∧ bx.d.small := hp
  have qE : ∀ e, (thenE (wE cl wx) (thenE (pE cl wx.d.toI px) (thenE (vE cl wx.d.toI px.d.lenD ax) (vE cl wx.d.toI px.d.lenD bx)))) = some e → ∀ d z' B' H', Nx G 0 z0 B0 H z' B' H' → B' d = some (.xd [("value", e.2)]) → E (.ref e.1) (some d) H' := qE
  have q : (thenE (wE cl wx) (thenE (pE cl wx.d.toI px) (thenE (vE cl wx.d.toI px.d.lenD ax) (vE cl wx.d.toI px.d.lenD bx)))) = none → ∀ y w z' B' H', (fun r => False) y → Nx G 0 z0 B0 H z' B' H' → Py.is y w B' → Q w H' := q
  have hz1 : z0 + (0 : Nat) ≤ 2 ^ 50 := hz
  have n := Nx.refl at0
  refine q_dropXS at0 n en (x_need_width (cl := cl) (ty_var (x := wx) rfl)) (by omega) (fun e he d z' B' H' nE hd => qE e (thenE_1 he) d z' B' H' (nE.le (by show _ ≤ 0; omega)) hd) (fun _ z' B' H' okx s n en => ?_)
  obtain ⟨wd, ewd, hwd⟩ := wE_ok okx.1
  have e1 := okx.1
  have e0 : wx.d.toI = wd := by rw [ewd]; rfl
  refine q_dropXS at0 n en (x_need_places (cl := cl) ((ty_var (x := wx) rfl).duInt ewd) (ty_var (x := px) rfl) ⟨hwd, hp.2.1⟩) (by omega) (fun e he d z' B' H' nE hd => qE e ((thenE_2 e1).trans (thenE_1 (by rw [e0]; exact he))) d z' B' H' (nE.le (by show _ ≤ 0; omega)) hd) (fun _ z' B' H' okx s n en => ?_)
  have e2 := okx.1
  obtain ⟨ps, eps, hps⟩ := pE_ok okx.1 hp.2.1
  have el : px.d.lenD = ps.length := by rw [eps]; show (ps.map Dat.int).length = _; rw [List.length_map]
  refine q_dropXS at0 n en (x_need_words (cl := cl) ((ty_var (x := wx) rfl).duInt ewd) ((ty_var (x := px) rfl).duInts eps) (ty_var (x := ax) rfl) ⟨hwd, hp.2.2.1⟩) (by omega) (fun e he d z' B' H' nE hd => qE e ((thenE_2 e1).trans ((thenE_2 (by rw [e0]; exact e2)).trans (thenE_1 (by rw [e0, el]; exact he)))) d z' B' H' (nE.le (by show _ ≤ 0; omega)) hd) (fun _ z' B' H' okx s n en => ?_)
  have e3 := okx.1
  refine q_dropXS at0 n en (x_need_words (cl := cl) ((ty_var (x := wx) rfl).duInt ewd) ((ty_var (x := px) rfl).duInts eps) (ty_var (x := bx) rfl) ⟨hwd, hp.2.2.2⟩) (by omega) (fun e he d z' B' H' nE hd => qE e ((thenE_2 e1).trans ((thenE_2 (by rw [e0]; exact e2)).trans ((thenE_2 (by rw [e0, el]; exact e3)).trans (by rw [e0, el]; exact he)))) d z' B' H' (nE.le (by show _ ≤ 0; omega)) hd) (fun _ z' B' H' okx s n en => ?_)
  have z := hp.1
  rw [thenE_2 e1, e0, thenE_2 e2, el, thenE_2 e3, okx.1] at z
  cases z
abbrev stwos_in : Stmt := topS 32
theorem sctwos_in : FnScope ["number"] ["number"] (defScope stwos_in) := ⟨rfl, rfl, rfl, by decide +kernel, rfl, by decide +kernel, by decide +kernel⟩
theorem okX_twos_in {f : Addr} {fd : FuncData} {cl : Str → Addr} (F : Df K "twos_in" "twos_in" stwos_in [] f fd) (T : TN mg)  (FXneed_whole : FoX P w K mg base "need_whole" 3 ["number"] (cNeedWholeX cl).spX) :
    FnOk P w K mg base (L2.CX P w) 5 f fd ["number"] (cBadTwosIn cl).spX := by
  refine con_goX F sctwos_in (cBadTwosIn cl) (fun _ => rfl) fun cdv A outer s H E i G z0 B0 hr hp at0 hz tk => ⟨_, (pss_cons (ps_expr (pe_foX FXneed_whole (hr.mono (by decide)) tk (by rfl) (pa_cons (pv 0) pa_nil)))
     pss_never), fun σ Q en q qE => ?_⟩
  obtain ⟨nx, rfl⟩ : ∃ a, a = i := ⟨_, rfl⟩
  have hp : (nE cl nx).isSome = true := hp
  have qE : ∀ e, (nE cl nx) = some e → ∀ d z' B' H', Nx G 0 z0 B0 H z' B' H' → B' d = some (.xd [("value", e.2)]) → E (.ref e.1) (some d) H' := qE
  have q : (nE cl nx) = none → ∀ y w z' B' H', (fun r => False) y → Nx G 0 z0 B0 H z' B' H' → Py.is y w B' → Q w H' := q
  have hz1 : z0 + (0 : Nat) ≤ 2 ^ 50 := hz
  have n := Nx.refl at0
  refine q_dropXS at0 n en (x_need_whole (cl := cl) (ty_var (x := nx) rfl)) (by omega) (fun e he d z' B' H' nE hd => qE e he d z' B' H' (nE.le (by show _ ≤ 0; omega)) hd) (fun _ z' B' H' okx s n en => ?_)
  rw [okx.1] at hp
  cases hp
end
end K04
set_option maxHeartbeats 4000000
/-! A law's generator at a constant index; `drawn and false`. -/
namespace AP
open PySem PySem.Spec PyProof.Rows L2 Evl
section
variable {K : PySem.W.Frag} {G : Option Addr} {c c0 c1 c2 : Nat} {te ta tb : TE} {tt tu : TT} {Γ : AP.Ctx} {B B' H H' B0 H0 : Hp} {v w : V} {σ : L2.St} {z z' z0 : Int} {D : Ends} {tz : TS}
/-- g = generator(script, 3) -/
theorem q_genC {a : Addr} {ns : List Int} {k m : Nat} {i : Nat} {E : XK} (s0 : At none z0 B0 H0) (n : Nx none c0 z0 B0 H0 z B H) (en : Slo B σ Γ)
    (h1 : Γ[k]? = some (some (ScP K a ns))) (hi : i ≤ 1000)
    (kk : ∀ p z1 H1 σ', At (some p) z1 B H1 → 0 ≤ z1 → z1 ≤ 1000000 → (∀ c z' B' H', Nx (some p) c z1 B H1 z' B' H' → Nx none c0 z0 B0 H0 z B' H') → Slo B σ' (Γ.set m (some (Py.is (GenR.mk p)))) → tz D σ' H1) :
    tSeq (tAsg (tCall (spGenerator K) [] E (tCons (tVar k) (tCons (tC (.int (i : Int))) tNil))) (gName m)) tz D σ H := by
  obtain ⟨v, e1, _, ev, hs⟩ := en.all k _ h1
  subst ev
  refine ⟨_, e1, ?_⟩
  refine ⟨a, ns, i, rfl, ex_l n.at_.ex hs, hi, fun p H1 np ex1 gen => ?_⟩
  obtain ⟨x, y, z1, g1, g2, ⟨g3, g4⟩, g5, g6⟩ := gen
  have nB : B p = none := fresh_back n.at_.ex np
  have at1 : At (some p) z1 B H1 := ⟨n.at_.ex.trans ex1, fun g eg => by cases eg; exact ⟨nB, x, y, g1, g2, g3, g4, g5⟩⟩
  refine kk p z1 H1 _ at1 g5 g6 (fun c z' B' H' nx => ?_) (en.put rfl)
  have b : Nx none 0 z B H z B' H' := ⟨⟨nx.at_.ex, fun g eg => by cases eg⟩, nx.up, fun b o hb => by
    rcases nx.new b o hb with h | h
    · exact .inl h
    · exact .inr (h.back ex1), Int.le_refl _, by omega, fun b o _ hb => nx.keep b o (fun z => by cases z; rw [np] at hb; cases hb) (ex1 b o hb)⟩
  exact (n.trans s0 b).le (by omega)
end
end AP
set_option maxHeartbeats 4000000
/-! sorted lists of tuples; dicts of tuples put again and again; list(dict). -/
namespace AP
open PySem PySem.Spec PyProof.Rows L2 Evl PySem.W
/-- values and the tuples that they are -/
inductive TupsAt (H : Hp) : List TupI → List V → Prop
  | nil : TupsAt H [] []
  | cons {t : TupI} {p : Addr} {ts : List TupI} {vs : List V} : H p = some (.tup (t.items.map V.int)) → TupsAt H ts vs → TupsAt H (t :: ts) (.ref p :: vs)
theorem TupsAt.each {B : Hp} : ∀ {ts : List TupI} {vs : List V}, TupsAt B ts vs → Each B ts vs
  | _, _, .nil => .nil
  | _, _, .cons h r => .cons ⟨_, rfl, h⟩ r.each
theorem TupsAt.of {B H : Hp} (e : Ex B H) : ∀ {ts : List TupI} {vs : List V}, Each B ts vs → TupsAt H ts vs
  | [], _, h => by cases h; exact .nil
  | t :: ts, _, h => by
    cases h with
    | cons a b =>
      obtain ⟨p, rfl, hp⟩ := a
      exact .cons (e _ _ hp) (TupsAt.of e b)
theorem TupsAt.len {H : Hp} : ∀ {ts : List TupI} {vs : List V}, TupsAt H ts vs → vs.length = ts.length
  | _, _, .nil => rfl
  | _, _, .cons _ r => by rw [List.length_cons, List.length_cons, r.len]
/-! ### tuples that were there become known -/
section
variable {K : PySem.W.Frag} {G : Option Addr} {c c0 c1 c2 : Nat} {te ta tb tr : TE} {Γ : Ctx} {B B' H B0 H0 : Hp} {σ : L2.St} {z z0 : Int} {D : Ends} {tz : TS}
/-! ### dicts of tuples -/
structure DicS where
  keys : List TupI
instance : Py DicS := ⟨fun d v B => ∃ p kvs, v = .ref p ∧ B p = some (.dT kvs) ∧ EachD B d.keys kvs, fun _ _ _ _ e ⟨p, kvs, h1, h2, h3⟩ => ⟨p, kvs, h1, e _ _ h2, ⟨h3.keys⟩⟩⟩
def addT (xs : List TupI) (t : TupI) : List TupI := if t ∈ xs then xs else xs ++ [t]
theorem EachD.put {xs : List TupI} {kvs : List (List L2.Key × V)} {x : TupI} {v : V} (h : EachD B xs kvs) : EachD B (addT xs x) (putK kvs (keyI x) v) := by
  by_cases q : x ∈ xs
  · have e : (kvs.any fun kv => decide (kv.1 = keyI x)) = true := by
      have : keyI x ∈ kvs.map (·.1) := by rw [h.keys]; exact List.mem_map.mpr ⟨x, q, rfl⟩
      obtain ⟨kv, hk, e⟩ := List.mem_map.mp this
      exact List.any_eq_true.mpr ⟨kv, hk, decide_eq_true e⟩
    unfold putK addT
    rw [if_pos e, if_pos q]
    refine ⟨?_⟩
    rw [← h.keys, List.map_map]
    exact List.map_congr_left fun kv _ => by
      show (if kv.1 = keyI x then (kv.1, v) else kv).1 = kv.1
      split <;> rfl
  · rw [h.fresh q]
    unfold addT
    rw [if_neg q]
    exact h.snoc
end
end AP
set_option maxHeartbeats 4000000
/-! list(xs) that is new; list(tuple). -/
namespace AP
open PySem PySem.Spec PyProof.Rows L2 Evl
/-! ### max(xs, default=d) of ints -/
end AP
set_option maxHeartbeats 4000000
/-! A method's call within a comprehension. -/
namespace AP
open PySem PySem.Spec PyProof.Rows L2 Evl
end AP
set_option maxHeartbeats 4000000
/-! Tuples of numbers as data; x in xs of any data; xs[i] = a drawn number. -/
namespace AP
open PySem PySem.Spec PyProof.Rows L2 Evl
open DatOf (toD)
theorem tup_dats {B : Hp} : ∀ ns : List Int, DatVs B (ns.map Dat.int) (ns.map V.int)
  | [] => .nil
  | n :: ns => .cons (dat_int rfl) (tup_dats ns)
instance : DatOf TupI := ⟨fun t => .tup (t.items.map Dat.int), fun t v B ⟨p, e, h⟩ => by subst e; exact .tup h (tup_dats _), fun t => all_lay t.items, fun t => all_nod t.items, 1, fun t => Nat.succ_le_succ (all_depth t.items), fun s t => by
  refine (all_eqv s.items t.items).trans (decide_eq_decide.mpr ⟨fun h => ?_, fun h => by rw [h]⟩)
  cases s
  cases t
  have h : _ = _ := h
  rw [TupI.mk.injEq]
  exact h, fun _ => ⟨rfl, rfl⟩⟩
end AP
set_option maxHeartbeats 4000000
/-! New results by x if b else y; what is never come to; walks over tuples of numbers. -/
namespace AP
open PySem PySem.Spec PyProof.Rows L2 Evl
section
variable {K : PySem.W.Frag} {G : Option Addr} {c c0 c1 c2 c3 : Nat} {te ta tb tx : TE} {tt tu : TT} {g : TG} {Γ : Ctx} {α β γ : Type} [Py α] [Py β] [Py γ] {A A' : α → Prop} {B B' B0 H H0 : Hp} {v w : V} {z z0 : Int} {D : Ends} {tz : TS} {σ : L2.St}
theorem TyN.opt {x : α} (h : TyN G c te Γ (· = x)) : TyN G c te Γ (· = some x) := fun z B σ H en s hz Q q => h z B σ H en s hz Q fun y v z' B' H' e n hv => by
  subst e
  exact q (some y) v z' B' H' rfl n hv
/-! ### walks over tuples of numbers -/
end
end AP
set_option maxHeartbeats 4000000
/-! Several lists of numbers that are changed by turns: made at once, read as a whole between two changes, a number popped off one put behind another. -/
namespace AP
open PySem PySem.Spec PyProof.Rows L2 Evl
section
variable {K : PySem.W.Frag} {G : Option Addr} {c c0 c1 c2 c3 : Nat} {te ta tb tc tr : TE} {tt : TT} {t : TS} {Γ : AP.Ctx} {α β : Type} [Py α] [Py β] {A : α → Prop} {B B' H H' B0 H0 : Hp} {v w : V} {σ : L2.St} {z z' z0 : Int} {D : Ends} {tz : TS}
/-- what stood before stays known as such; changed lists keep their places -/
inductive AgeR (B1 : Hp) : Ctx → Ctx → Prop
  | nil : AgeR B1 [] []
  | cons {α : Type} [Py α] (x : α) {Γ Γ' : Ctx} : AgeR B1 Γ Γ' → AgeR B1 (some (Py.is x) :: Γ) (some (Py.is (OldV.mk x : OldV B1 α)) :: Γ')
  | ref (l : Addr) {Γ Γ' : Ctx} : AgeR B1 Γ Γ' → AgeR B1 (some (RefP l) :: Γ) (some (RefP l) :: Γ')
  | skip {o : Option VP} {Γ Γ' : Ctx} : AgeR B1 Γ Γ' → AgeR B1 (o :: Γ) (none :: Γ')
theorem AgeR.ok {B1 : Hp} {Γ Γ' : Ctx} (a : AgeR B1 Γ Γ') : Γ'.length = Γ.length ∧ ∀ (k : Nat) (P2 : VP), Γ'[k]? = some (some P2) → ∃ P : VP, Γ[k]? = some (some P) ∧ Stays P2 ∧ ∀ v, P v B1 → P2 v B1 := by
  induction a with
  | nil => exact ⟨rfl, fun k P2 h => by simp at h⟩
  | cons x _ ih =>
    refine ⟨by simp [ih.1], fun k P2 h => ?_⟩
    cases k with
    | zero => cases h; exact ⟨_, rfl, Py.stays _, fun v h => ⟨h, h⟩⟩
    | succ k => exact ih.2 k P2 h
  | ref l _ ih =>
    refine ⟨by simp [ih.1], fun k P2 h => ?_⟩
    cases k with
    | zero => cases h; exact ⟨_, rfl, RefP.stays, fun v h => h⟩
    | succ k => exact ih.2 k P2 h
  | skip _ ih =>
    refine ⟨by simp [ih.1], fun k P2 h => ?_⟩
    cases k with
    | zero => cases h
    | succ k => exact ih.2 k P2 h
theorem tn_nil : TyN G 0 (tLst tNil) Γ (· = ([] : List Int)) := fun z B σ H en s hz Q q => ⟨by show 0 ≤ sizeLine; exact Nat.zero_le _, fun p hp => by
  have p0 : B p = none := by
    cases e0 : B p with
    | none => rfl
    | some o => rw [s.ex _ _ e0] at hp; cases hp
  exact q [] _ _ _ _ rfl (Nx.alloc s hp) ⟨p, [], rfl, by unfold diff; rw [if_pos p0, upd_same], .nil⟩⟩
/-- what a changed list is known by -/
structure Gro (H0 B H : Hp) (l : Addr) (xs : List Int) : Prop where
  hl : H l = some (.lst (xs.map V.int))
  nl : B l = none
  n0 : H0 l = none
theorem Gro.step {xs : List Int} {l : Addr} (g : Gro H0 B H l xs) (s0 : At G z0 B0 H0) (n : Nx G c z B H z' B' H') : Gro H0 B' H' l xs := by
  have k := n.keepL (s0.ne g.n0) g.hl g.nl
  exact ⟨k.1, k.2, g.n0⟩
theorem gro_of {xs : List Int} {l : Addr} {us : List V} {B2 : Hp} (e1 : H' l = some (.lst us)) (e2 : B2 l = none) (e3 : H0 l = none) (e4 : Each B2 xs us) : Gro H0 B2 H' l xs := ⟨by rw [e1, e4.ints], e2, e3⟩
theorem TyN.gro {A : List Int → Prop} (s0 : At G z0 B0 H0) (n : Nx G c0 z0 B0 H0 z B H) (en : Slo B σ Γ) (h : TyN G c te Γ A) (hz : z0 + (c0 + c) ≤ 2 ^ 50) (Q : VK)
    (q : ∀ xs l z' B' H', A xs → H l = none → Gro H0 B' H' l xs → Nx G c z B H z' B' H' → Q (.ref l) H') : te σ H Q :=
  h z B σ H en n.at_ (by have := n.hi; omega) Q fun x v z1 B1 H1 ax n1 hv => by
    obtain ⟨l, us, B2, rfl, e1, e2, e3, e4, n2, _⟩ := n1.split hv
    exact q x l z1 B2 H1 ax e3 (gro_of e1 e2 (n.gone s0 e3) e4) n2
/-! ### a while that reads lists which its body changes -/
end
end AP
set_option maxHeartbeats 4000000
/-! A sum of two lists that grows on. -/
namespace AP
open PySem PySem.Spec PyProof.Rows L2 Evl
section
variable {K : PySem.W.Frag} {G : Option Addr} {c c0 c1 c2 c3 : Nat} {te ta tb tc tr : TE} {tt : TT} {t : TS} {Γ : AP.Ctx} {α β : Type} [Py α] [Py β] {A : α → Prop} {B B' H H' B0 H0 : Hp} {v w : V} {σ : L2.St} {z z' z0 : Int} {D : Ends} {tz : TS}
theorem q_catS {xs ys : List α} (s0 : At G z0 B0 H0) (n : Nx G c0 z0 B0 H0 z B H) (en : Slo B σ Γ) {i : Nat} (h1 : Ty G c1 ta Γ (· = xs)) (h2 : Ty G c2 tb Γ (· = ys)) (small : xs.length + ys.length ≤ 100000) (hz : z0 + (c0 + (c1 + c2)) ≤ 2 ^ 50)
    (k : ∀ us l z' B' H' σ', H' l = none → Nx G (c0 + (c1 + c2)) z0 B0 H0 z' B' (upd H' l (.lst us)) → Slo B' σ' (Γ.set i (some (RefP l))) → B' l = none → H0 l = none → Each B' (xs ++ ys) us → Nx G (c1 + c2) z B H z' B' (upd H' l (.lst us)) → tz D σ' (upd H' l (.lst us))) :
    tSeq (tAsg (tOp rCat ta tb) (gName i)) tz D σ H := by
  refine h1 z B σ H en n.at_ (by have := n.hi; omega) _ fun x v z1 B1 H1 ax n1 hv => ?_
  refine h2 z1 B1 σ H1 (en.up n1.up) n1.at_ (by have := n.hi; have := n1.hi; omega) _ fun y w z2 B2 H2 ay n2 hw => ?_
  subst ax ay
  have hv := Py.st _ _ _ _ n2.up hv
  obtain ⟨p, us, rfl, e1, e2⟩ := hv
  obtain ⟨q, vs, rfl, e3, e4⟩ := hw
  have nn := n1.trans n.at_ n2
  refine ⟨p, q, us, vs, rfl, rfl, n2.at_.ex _ _ e1, n2.at_.ex _ _ e3, sz_of (by rw [e2.len, e4.len]; exact small), fun l hl => ?_⟩
  have m := nn.trans n.at_ (Nx.more n2.at_ (Ex.new (o := .lst (us ++ vs)) hl))
  refine k (us ++ vs) l z2 B2 H2 _ hl ((n.trans s0 m).le (by omega)) ((en.up nn.up).set RefP.stays rfl) ?_ ((n.trans s0 nn).gone s0 hl) (e2.app e4) (m.le (by omega))
  cases e : B2 l with
  | none => rfl
  | some o => rw [n2.at_.ex _ _ e] at hl; cases hl
end
end AP
set_option maxHeartbeats 4000000
/-! any of whole numbers; != of truth values. -/
namespace AP
open PySem PySem.Spec PyProof.Rows L2 Evl
end AP
set_option maxHeartbeats 4000000
/-! Three names at once, the second one a new list that is told with its place. -/
namespace AP
open PySem PySem.Spec PyProof.Rows L2 Evl
end AP
set_option maxHeartbeats 4000000
/-! list(zip(xs, ys)): the tuples handed out are kept. -/
namespace AP
open PySem PySem.Spec PyProof.Rows L2 Evl
/-- a zip some of whose tuples, Ts, are kept in the list at S -/
structure ZK (z TI TO i1 i2 l1 l2 S : Addr) (xs ys : Array Value) (N0 : Nat) (Ts : List Addr) (h : Heap) : Prop where
  pair : IsPair h TI (.ref i1) (.ref i2)
  it1 : h.IsListIter i1 l1 Ts.length
  it2 : h.IsListIter i2 l2 Ts.length
  li1 : h.IsList l1 xs
  li2 : h.IsList l2 ys
  own : ∃ o, h.get? TO = some o
  zip : (IsZip h z TI TO .none ∧ ∃ a b, IsPair h TO a b) ∨ ∃ T f oT, IsZipHeld h z TI TO T f ∧ h.get? T = some oT ∧ T ≠ z ∧ T ≠ i1 ∧ T ≠ i2 ∧ T ≠ S
  size : N0 ≤ h.objs.size
  nd : Ts.Nodup
  tups : ∀ (j : Nat) T, Ts[j]? = some T → (T ≠ z ∧ T ≠ TO ∧ T ≠ i1 ∧ T ≠ i2 ∧ T ≠ S) ∧ N0 ≤ T ∧ ∃ x y, xs[j]? = some x ∧ ys[j]? = some y ∧ IsPair h T x y
structure ZOff (z TI TO i1 i2 l1 l2 S : Addr) : Prop where
  z : S ≠ z
  TI : S ≠ TI
  TO : S ≠ TO
  i1 : S ≠ i1
  i2 : S ≠ i2
  l1 : S ≠ l1
  l2 : S ≠ l2
section
variable {prog : Program} {w : World} {A : Around} {E : Value → Shared → Prop} {s : Shared} {R : Result → Shared → Prop}
variable {z TI TO i1 i2 l1 l2 S : Addr} {xs ys : Array Value} {N0 : Nat} {Ts : List Addr} {h h' : Heap}
theorem ZK.frame (O : ZOff z TI TO i1 i2 l1 l2 S) (st : ZK z TI TO i1 i2 l1 l2 S xs ys N0 Ts h) (hk : ∀ b o, b ≠ S → h.get? b = some o → h'.get? b = some o) (hs : h.objs.size ≤ h'.objs.size) : ZK z TI TO i1 i2 l1 l2 S xs ys N0 Ts h' where
  pair := hk _ _ O.TI.symm st.pair
  it1 := st.it1.at fun o e => hk _ o O.i1.symm e
  it2 := st.it2.at fun o e => hk _ o O.i2.symm e
  li1 := st.li1.at fun o e => hk _ o O.l1.symm e
  li2 := st.li2.at fun o e => hk _ o O.l2.symm e
  own := let ⟨o, e⟩ := st.own; ⟨o, hk _ o O.TO.symm e⟩
  zip := by
    rcases st.zip with ⟨hz, a, b, hTO⟩ | ⟨T, f, oT, hz, hT, r1, r2, r3, r4⟩
    · exact .inl ⟨hk _ _ O.z.symm hz, a, b, hk _ _ O.TO.symm hTO⟩
    · exact .inr ⟨T, f, oT, hk _ _ O.z.symm hz, hk _ _ r4 hT, r1, r2, r3, r4⟩
  size := Nat.le_trans st.size hs
  nd := st.nd
  tups := fun j T e => by
    obtain ⟨n, g, x, y, hx, hy, hp⟩ := st.tups j T e
    exact ⟨n, g, x, y, hx, hy, hk _ _ n.2.2.2.2 hp⟩
theorem ZK.item (D : ZipApart z TI TO i1 i2 l1 l2) (st : ZK z TI TO i1 i2 l1 l2 S xs ys N0 Ts s.heap) (hi : Ts.length < min xs.size ys.size) (hS : ∃ o, s.heap.get? S = some o) {Q : Option Value → Shared → Prop}
    (hQ : ∀ T h', ZK z TI TO i1 i2 l1 l2 S xs ys N0 (Ts ++ [T]) h' → (∀ c o, c ≠ z → c ≠ TO → c ≠ i1 → c ≠ i2 → s.heap.get? c = some o → h'.get? c = some o) → s.heap.objs.size ≤ h'.objs.size → Q (some (.ref T)) { s with heap := h' }) :
    wpAny (model prog w) A (pyNext (.ref z)) Q E s := by
  have hix : Ts.length < xs.size := Nat.lt_of_lt_of_le hi (Nat.min_le_left ..)
  have hiy : Ts.length < ys.size := Nat.lt_of_lt_of_le hi (Nat.min_le_right ..)
  have ex := Array.getElem?_eq_getElem hix
  have ey := Array.getElem?_eq_getElem hiy
  have lt : ∀ {c o}, s.heap.get? c = some o → s.heap.objs.size ≠ c := fun e => Nat.ne_of_gt (Heap.lt_size e)
  have n1 : s.heap.objs.size ≠ i1 := let ⟨_, e, _⟩ := st.it1; lt e
  have n2 : s.heap.objs.size ≠ i2 := let ⟨_, e, _⟩ := st.it2; lt e
  have n3 : s.heap.objs.size ≠ S := let ⟨_, e⟩ := hS; lt e
  have n4 : s.heap.objs.size ≠ TO := let ⟨_, e⟩ := st.own; lt e
  have len : (Ts ++ [s.heap.objs.size]).length = Ts.length + 1 := by rw [List.length_append]; rfl
  have nd : (Ts ++ [s.heap.objs.size]).Nodup := List.nodup_append.mpr ⟨st.nd, by simp, fun a ha c hc q => by
    rw [List.mem_singleton.mp hc] at q
    obtain ⟨j, hj⟩ := List.mem_iff_getElem?.mp ha
    obtain ⟨_, _, x, y, _, _, hp⟩ := st.tups j a hj
    exact lt hp q.symm⟩
  have tups : ∀ h' : Heap, IsPair h' s.heap.objs.size xs[Ts.length] ys[Ts.length] → s.heap.objs.size ≠ z → (∀ c o, c ≠ z → c ≠ TO → c ≠ i1 → c ≠ i2 → s.heap.get? c = some o → h'.get? c = some o) →
      ∀ (j : Nat) T, (Ts ++ [s.heap.objs.size])[j]? = some T → (T ≠ z ∧ T ≠ TO ∧ T ≠ i1 ∧ T ≠ i2 ∧ T ≠ S) ∧ N0 ≤ T ∧ ∃ x y, xs[j]? = some x ∧ ys[j]? = some y ∧ IsPair h' T x y := fun h' a5 nz hk j T e => by
    rw [List.getElem?_append] at e
    split at e
    · obtain ⟨n, g, x, y, hx, hy, hp⟩ := st.tups j T e
      exact ⟨n, g, x, y, hx, hy, hk _ _ n.1 n.2.1 n.2.2.1 n.2.2.2.1 hp⟩
    · rename_i hj
      have hj2 : j = Ts.length := by
        have := (List.getElem?_eq_some_iff.mp e).1
        simp at this
        omega
      subst hj2
      rw [Nat.sub_self] at e
      have e : s.heap.objs.size = T := by injection e
      subst e
      exact ⟨⟨nz, n4, n1, n2, n3⟩, st.size, _, _, ex, ey, a5⟩
  rcases st.zip with ⟨hz, a, b, hTO⟩ | ⟨T, f, oT, hz, hT, r1, r2, r3, r4⟩
  · refine wpAny_pyNext_zip_item D hz st.pair hTO st.it1 st.it2 st.li1 st.li2 ex ey fun h' a1 a2 a3 a4 a5 a6 hk => hQ s.heap.objs.size h' ?_ hk (by omega)
    exact {
      pair := hk _ _ D.TIz D.TITO D.TIi1 D.TIi2 st.pair
      it1 := by rw [len]; exact a3
      it2 := by rw [len]; exact a4
      li1 := st.li1.at fun o e => hk _ o D.l1z D.l1TO D.l1i1 D.l1i2 e
      li2 := st.li2.at fun o e => hk _ o D.l2z D.l2TO D.l2i1 D.l2i2 e
      own := ⟨_, a2⟩
      zip := .inr ⟨s.heap.objs.size, false, _, a1, a5, lt hz, n1, n2, n3⟩
      size := Nat.le_trans st.size (by omega)
      nd := nd
      tups := tups h' a5 (lt hz) hk }
  · refine wpAny_pyNext_zip_item_held D hz hT st.pair st.it1 st.it2 st.li1 st.li2 ex ey fun h' a1 a3 a4 a5 a6 hk => hQ s.heap.objs.size h' ?_ (fun c o e1 _ e3 e4 e => hk c o e1 e3 e4 e) (by omega)
    exact {
      pair := hk _ _ D.TIz D.TIi1 D.TIi2 st.pair
      it1 := by rw [len]; exact a3
      it2 := by rw [len]; exact a4
      li1 := st.li1.at fun o e => hk _ o D.l1z D.l1i1 D.l1i2 e
      li2 := st.li2.at fun o e => hk _ o D.l2z D.l2i1 D.l2i2 e
      own := let ⟨o, e⟩ := st.own; ⟨o, hk _ o D.TOz D.TOi1 D.TOi2 e⟩
      zip := .inr ⟨T, true, oT, a1, hk _ _ r1 r2 r3 hT, r1, r2, r3, r4⟩
      size := Nat.le_trans st.size (by omega)
      nd := nd
      tups := tups h' a5 (lt hz) fun c o e1 _ e3 e4 e => hk c o e1 e3 e4 e }
theorem ZK.type (st : ZK z TI TO i1 i2 l1 l2 S xs ys N0 Ts s.heap) : s.TypeIs (.ref z) "zip" := by
  rcases st.zip with ⟨hz, _⟩ | ⟨T, f, oT, hz, _⟩
  · exact ⟨_, hz, rfl⟩
  · exact ⟨_, hz, rfl⟩
end
end AP
set_option maxHeartbeats 4000000
/-! list(zip(xs, ys)) as an expression: a new list of pairs. -/
namespace AP
open PySem PySem.Spec PyProof.Rows L2 Evl
/-! ### for a, b in a list of pairs -/
end AP
set_option maxHeartbeats 4000000
/-! xs.remove(e); two and three names from a list; comprehensions with drawn tests; sorted lists of lists; list(x) for the keys of a dict of tuples; two names at once, the second a new list. -/
namespace AP
open PySem PySem.Spec PyProof.Rows L2 Evl PySem.W
/-! ### remove -/
section
variable {K : PySem.W.Frag} {G : Option Addr} {c c0 c1 c2 c3 ct : Nat} {te ta tb tc tl : TE} {tt : TT} {Γ : AP.Ctx} {α β γ : Type} [Py α] [Py β] [Py γ] {A : α → Prop} {A1 : List Int → Prop} {B B' H B0 H0 : Hp} {σ : L2.St} {z z0 : Int} {D : Ends} {tz : TS}
/-! ### names from a list -/
/-- a list of three that are not alike -/
structure T3L (α β γ : Type) where
  a : α
  b : β
  c : γ
instance : Py (T3L α β γ) := ⟨fun x v B => ∃ p a b c, v = .ref p ∧ B p = some (.lst [a, b, c]) ∧ Py.is x.a a B ∧ Py.is x.b b B ∧ Py.is x.c c B,
  fun _ _ _ _ e ⟨p, a, b, c, h1, h2, h3, h4, h5⟩ => ⟨p, a, b, c, h1, e _ _ h2, Py.st _ _ _ _ e h3, Py.st _ _ _ _ e h4, Py.st _ _ _ _ e h5⟩⟩
/-! ### a comprehension whose test is drawn -/
/-! ### an option that is some -/
/-! ### two names at once, the second one a new list -/
/-! ### list(x) for the keys of a dict of tuples -/
/-! ### sorted lists of lists of numbers -/
inductive LstsAt (B : Hp) : List (V × List Int) → Prop
  | nil : LstsAt B []
  | cons {p : Addr} {ns : List Int} {l : List (V × List Int)} : B p = some (.lst (ns.map V.int)) → LstsAt B l → LstsAt B ((.ref p, ns) :: l)
theorem LstsAt.mem {B : Hp} : ∀ {l : List (V × List Int)}, LstsAt B l → ∀ e ∈ l, ∃ p, e.1 = .ref p ∧ B p = some (.lst (e.2.map V.int))
  | _, .cons (p := p) h r, e, he => by
    rcases List.mem_cons.mp he with rfl | he
    · exact ⟨p, rfl, h⟩
    · exact r.mem e he
end
/-! ### right(generator(script, 3)) -/
end AP
set_option maxHeartbeats 4000000
/-! dict(xs) of pairs; sorted(d) of a dict of numbers. -/
namespace AP
open PySem PySem.Spec PySem.Calls PyProof.Rows PyProof.V L2 Evl PySem.W
/-! ### sorted(d) -/
/-- the only ascending list of these -/
def sortI (xs : List Int) : List Int := xs.mergeSort fun a b => decide (a ≤ b)
theorem sortI_perm (xs : List Int) : (sortI xs).Perm xs := List.mergeSort_perm xs _
theorem sortI_asc (xs : List Int) : (sortI xs).Pairwise (· ≤ ·) := (List.pairwise_mergeSort (le := fun a b : Int => decide (a ≤ b)) (fun a b c h1 h2 => by simp at *; omega) (fun a b => by simp; omega) xs).imp fun h => of_decide_eq_true h
theorem sortI_is {xs l : List Int} (p : l.Perm xs) (h : l.Pairwise (· ≤ ·)) : l = sortI xs := asc_unique h (sortI_asc xs) (p.trans (sortI_perm xs).symm)
theorem sortI_id {xs : List Int} (h : xs.Pairwise (· < ·)) : sortI xs = xs := (sortI_is (List.Perm.refl _) (h.imp fun q => by omega)).symm
end AP
set_option maxHeartbeats 4000000
/-! Items lists by their numbers: the last item counts single ones. -/
namespace AP
open PySem PySem.Spec PyProof.Rows L2 Evl
/-! greater numbers, greater lists -/
end AP
namespace AP
open PySem PySem.Spec PyProof.Rows L2 Evl
end AP
set_option maxHeartbeats 4000000
/-! Codes within codes: a code of fewer items, by noughts behind. -/
namespace AP
theorem newt_null {x : Int} : ∀ (od : List Int) (n : Nat), newt od (List.replicate n 0) x = 0
  | [], 0 => rfl
  | _ :: _, 0 => rfl
  | [], n + 1 => rfl
  | o :: od, n + 1 => by
    show 0 + (x - o) * newt od (List.replicate n 0) x = 0
    rw [newt_null od n, Int.mul_zero]
    rfl
theorem newt_zeros {x : Int} : ∀ (od ds : List Int) (n : Nat), newt od (ds ++ List.replicate n 0) x = newt od ds x
  | od, [], n => by
    rw [List.nil_append, newt_null]
    cases od <;> rfl
  | [], d :: ds, n => rfl
  | o :: od, d :: ds, n => by
    show d + (x - o) * newt od (ds ++ List.replicate n 0) x = d + (x - o) * newt od ds x
    rw [newt_zeros od ds n]
theorem words_zeros {wd : Int} {ps ds : List Int} (n : Nat) : wordsL wd ps (ds ++ List.replicate n 0) = wordsL wd ps ds := by
  unfold wordsL
  exact List.map_congr_left fun x _ => by rw [newt_zeros]
end AP
set_option maxHeartbeats 4000000
/-! All polynomials of m coefficients, and the code of count m. -/
namespace AP
end AP
set_option maxHeartbeats 4000000
/-! The least count of words. -/
namespace AP
end AP
set_option maxHeartbeats 4000000
/-! The lowest bits of codewords, by their items. -/
namespace AP
open PySem PySem.Spec PyProof.Rows L2 Evl
theorem mul_dvd_low {b n p d : Int} (n0 : 0 ≤ n) (h1 : ((2 : Int) ^ n.toNat) ∣ p) (h2 : ((2 : Int) ^ (b - n).toNat) ∣ d) : ((2 : Int) ^ b.toNat) ∣ p * d := by
  have := Int.mul_dvd_mul h1 h2
  rw [← Int.pow_add] at this
  exact Int.dvd_trans (pow_dvd_pow (by omega)) this
theorem newt_dvd {b : Int} : ∀ {pre o ns : List Int}, Along pre o ns → (pre ++ o).Nodup → ∀ {es : List Int}, es.length ≤ o.length →
    ((∀ x ∈ o, ((2 : Int) ^ b.toNat) ∣ prodTo x pre * newt o es x) ↔ ∀ j : Nat, ((2 : Int) ^ (b - ns.getD j 0).toNat) ∣ es.getD j 0) := by
  intro pre o ns al
  induction al with
  | nil =>
    intro _ es l
    have a : es = [] := List.length_eq_zero_iff.mp (Nat.le_zero.mp l)
    subst a
    exact ⟨fun _ j => Int.dvd_zero _, fun _ x hx => by cases hx⟩
  | @cons pre o ns a h1 h2 ih =>
    intro nd es l
    have nin : a ∉ pre := fun hm => (List.nodup_append.mp nd).2.2 a hm a List.mem_cons_self rfl
    have tn := twosTo_nonneg a pre
    have div : ∀ x ∈ a :: o, ((2 : Int) ^ (twosTo a pre).toNat) ∣ prodTo x pre := fun x hx => by
      have nin : x ∉ pre := fun h => (List.nodup_append.mp nd).2.2 x h x hx rfl
      have := h1 x hx
      have t := twos_prod nin
      exact dvd_twos (.inr (by omega))
    have nd2 : (pre ++ [a] ++ o).Nodup := by rw [List.append_assoc]; exact nd
    cases es with
    | nil => exact ⟨fun _ j => Int.dvd_zero _, fun _ x _ => by show _ ∣ prodTo x pre * 0; rw [Int.mul_zero]; exact Int.dvd_zero _⟩
    | cons d r =>
      have ih := ih nd2 (es := r) (by simpa using l)
      have first : ((2 : Int) ^ (b - twosTo a pre).toNat) ∣ d → ∀ x ∈ a :: o, ((2 : Int) ^ b.toNat) ∣ prodTo x pre * d := fun hd x hx => mul_dvd_low tn (div x hx) hd
      have split : ∀ x, prodTo x pre * newt (a :: o) (d :: r) x = prodTo x pre * d + prodTo x (pre ++ [a]) * newt o r x := fun x => by
        show prodTo x pre * (d + (x - a) * newt o r x) = _
        rw [Int.mul_add, prodTo_snoc, Int.mul_assoc]
      constructor
      · intro h
        have h0 := h a List.mem_cons_self
        rw [split, prodTo_zero (x := a) (l := pre ++ [a]) (by simp), Int.zero_mul, Int.add_zero] at h0
        have hd : ((2 : Int) ^ (b - twosTo a pre).toNat) ∣ d := by
          by_cases q : twosTo a pre ≤ b
          · have := two_cancel (prodTo_ne nin) h0 (by rw [twos_prod nin]; omega)
            rw [twos_prod nin, show b.toNat - (twosTo a pre).toNat = (b - twosTo a pre).toNat by omega] at this
            exact this
          · rw [show (b - twosTo a pre).toNat = 0 by omega]
            exact Int.one_dvd d
        have rest := ih.mp fun x hx => by
          have h3 := h x (List.mem_cons_of_mem _ hx)
          rw [split] at h3
          have := Int.dvd_sub h3 (first hd x (List.mem_cons_of_mem _ hx))
          rwa [show prodTo x pre * d + prodTo x (pre ++ [a]) * newt o r x - prodTo x pre * d = prodTo x (pre ++ [a]) * newt o r x by omega] at this
        intro j
        cases j with
        | zero => exact hd
        | succ j => exact rest j
      · intro h x hx
        rw [split]
        refine Int.dvd_add (first (h 0) x hx) ?_
        by_cases q : x = a
        · rw [prodTo_zero (by rw [q]; simp), Int.zero_mul]
          exact Int.dvd_zero _
        · exact ih.mpr (fun j => h (j + 1)) x ((List.mem_cons.mp hx).resolve_left q)
def subL (ds es : List Int) : List Int := (ds.zip es).map fun e : Int × Int => e.1 - e.2
theorem newt_sub {x : Int} : ∀ (o ds es : List Int), ds.length = es.length → newt o (subL ds es) x = newt o ds x - newt o es x
  | [], ds, es, h => by
    cases ds <;> cases es <;> first | rfl | cases h
  | a :: o, [], [], _ => rfl
  | a :: o, d :: ds, e :: es, h => by
    have ih := newt_sub (x := x) o ds es (Nat.succ.inj h)
    show (d - e) + (x - a) * newt o (subL ds es) x = (d + (x - a) * newt o ds x) - (e + (x - a) * newt o es x)
    rw [ih, Int.mul_sub]
    omega
theorem sub_getD : ∀ {ds es : List Int}, ds.length = es.length → ∀ j : Nat, (subL ds es).getD j 0 = ds.getD j 0 - es.getD j 0
  | [], [], _, j => rfl
  | d :: ds, e :: es, h, 0 => rfl
  | d :: ds, e :: es, h, j + 1 => sub_getD (ds := ds) (es := es) (Nat.succ.inj h) j
theorem sub_len {ds es : List Int} (h : ds.length = es.length) : (subL ds es).length = ds.length := by
  unfold subL
  rw [List.length_map, List.length_zip]
  omega
/-- when two items lists have the same words -/
theorem words_low_iff {b : Int} {ps ds es : List Int} (nd : ps.Nodup) (h : ds.length = es.length) (hl : ds.length ≤ ps.length) :
    wordsL b ps ds = wordsL b ps es ↔ ∀ j : Nat, ((2 : Int) ^ (b - (numbersOf ps).getD j 0).toNat) ∣ ds.getD j 0 - es.getD j 0 := by
  have pm := order_perm nd
  have k := newt_dvd (b := b) (order_along nd) (by simpa using (pm.nodup_iff.mpr nd)) (es := subL ds es) (by rw [sub_len h, pm.length_eq]; exact hl)
  have s : (∀ j : Nat, ((2 : Int) ^ (b - (numbersOf ps).getD j 0).toNat) ∣ (subL ds es).getD j 0) ↔ ∀ j : Nat, ((2 : Int) ^ (b - (numbersOf ps).getD j 0).toNat) ∣ ds.getD j 0 - es.getD j 0 :=
    ⟨fun h2 j => by rw [← sub_getD h]; exact h2 j, fun h2 j => by rw [sub_getD h]; exact h2 j⟩
  rw [← s, ← k]
  unfold wordsL
  constructor
  · intro e x hx
    have := List.map_inj_left.mp e x (pm.mem_iff.mp hx)
    show _ ∣ 1 * _
    rw [Int.one_mul, newt_sub _ _ _ h]
    exact Int.dvd_of_emod_eq_zero (Int.emod_eq_emod_iff_emod_sub_eq_zero.mp this)
  · intro e
    refine List.map_congr_left fun x hx => ?_
    have := e x (pm.mem_iff.mpr hx)
    rw [show prodTo x [] = 1 from rfl, Int.one_mul, newt_sub _ _ _ h] at this
    exact Int.emod_eq_emod_iff_emod_sub_eq_zero.mpr (Int.emod_eq_zero_of_dvd this)
/-- lists of numbers e + 2 ^ c * t, t below 2 ^ f -/
def spreadL : List (Int × Int × Int) → List (List Int)
  | [] => [[]]
  | p :: r => (spreadL r).flatMap fun l => (rg1 (2 ^ p.1.toNat)).map fun t => (p.2.2 + 2 ^ p.2.1.toNat * t) :: l
theorem spread_len : ∀ T : List (Int × Int × Int), (∀ p ∈ T, 0 ≤ p.1) → (spreadL T).length = 2 ^ (T.map fun p : Int × Int × Int => p.1).sum.toNat ∧ 0 ≤ (T.map fun p : Int × Int × Int => p.1).sum
  | [], _ => ⟨rfl, Int.le_refl _⟩
  | p :: r, h => by
    obtain ⟨i1, i2⟩ := spread_len r fun q hq => h q (List.mem_cons_of_mem _ hq)
    have h0 := h p List.mem_cons_self
    have e : ∀ L : List (List Int), (L.flatMap fun l => (rg1 (2 ^ p.1.toNat)).map fun t => (p.2.2 + 2 ^ p.2.1.toNat * t) :: l).length = L.length * 2 ^ p.1.toNat := fun L => by
      induction L with
      | nil => simp
      | cons a L ih => rw [List.flatMap_cons, List.length_append, ih, List.length_map, rg1_len', two_toNat, List.length_cons, Nat.add_mul, Nat.one_mul, Nat.add_comm]
    refine ⟨?_, by rw [List.map_cons, List.sum_cons]; omega⟩
    show ((spreadL r).flatMap _).length = _
    rw [e, i1, List.map_cons, List.sum_cons, ← Nat.pow_add]
    congr 1
    omega
theorem spread_mem : ∀ (T : List (Int × Int × Int)) (l : List Int), l ∈ spreadL T ↔ l.length = T.length ∧ ∀ (j : Nat) (p : Int × Int × Int) (x : Int), T[j]? = some p → l[j]? = some x → ∃ t, (0 ≤ t ∧ t < 2 ^ p.1.toNat) ∧ x = p.2.2 + 2 ^ p.2.1.toNat * t
  | [], l => by
    constructor
    · intro h
      rw [List.mem_singleton.mp h]
      exact ⟨rfl, fun j p x h => by cases h⟩
    · rintro ⟨h, _⟩
      rw [List.length_eq_zero_iff.mp h]
      exact List.mem_singleton.mpr rfl
  | q :: r, l => by
    constructor
    · intro h
      obtain ⟨l0, h0, h⟩ := List.mem_flatMap.mp h
      obtain ⟨t, ht, rfl⟩ := List.mem_map.mp h
      obtain ⟨i1, i2⟩ := (spread_mem r l0).mp h0
      refine ⟨by rw [List.length_cons, List.length_cons, i1], fun j p x hp hx => ?_⟩
      cases j with
      | zero =>
        cases hp; cases hx
        exact ⟨t, rg1_mem' ht, rfl⟩
      | succ j => exact i2 j p x hp hx
    · rintro ⟨h1, h2⟩
      cases l with
      | nil => cases h1
      | cons x l =>
        obtain ⟨t, ht, rfl⟩ := h2 0 q x rfl rfl
        refine List.mem_flatMap.mpr ⟨l, (spread_mem r l).mpr ⟨Nat.succ.inj h1, fun j p y hp hy => h2 (j + 1) p y hp hy⟩, List.mem_map.mpr ⟨t, ?_, rfl⟩⟩
        unfold rg1
        exact List.mem_map.mpr ⟨t.toNat, List.mem_range.mpr (by omega), by omega⟩
/-- congruent numbers in a range -/
theorem range_iff {x e : Int} {m c : Nat} (hc : c ≤ m) (e0 : 0 ≤ e) (e1 : e < 2 ^ c) : ((0 ≤ x ∧ x < 2 ^ m) ∧ ((2 : Int) ^ c) ∣ x - e) ↔ ∃ t, (0 ≤ t ∧ t < 2 ^ (m - c)) ∧ x = e + 2 ^ c * t := by
  have tp : (0 : Int) < 2 ^ c := Int.pow_pos (by decide)
  have sp : (2 : Int) ^ m = 2 ^ c * 2 ^ (m - c) := by rw [← Int.pow_add]; congr 1; omega
  constructor
  · rintro ⟨⟨x0, x1⟩, t, ht⟩
    have hx : x = e + 2 ^ c * t := by omega
    refine ⟨t, ⟨?_, ?_⟩, hx⟩
    · refine Int.not_lt.mp fun h => ?_
      have := Int.mul_le_mul_of_nonneg_left (show t ≤ -1 by omega) (Int.le_of_lt tp)
      omega
    · refine Int.not_le.mp fun h => ?_
      have := Int.mul_le_mul_of_nonneg_left h (Int.le_of_lt tp)
      omega
  · rintro ⟨t, ⟨t0, t1⟩, rfl⟩
    have a := Int.mul_nonneg (Int.le_of_lt tp) t0
    have b := Int.mul_le_mul_of_nonneg_left (show t + 1 ≤ 2 ^ (m - c) by omega) (Int.le_of_lt tp)
    rw [Int.mul_add, Int.mul_one] at b
    refine ⟨⟨by omega, by omega⟩, t, by omega⟩
end AP
set_option maxHeartbeats 4000000
/-! The codewords above given lowest bits: which items they have, how many there are, and that the first has the least number. -/
namespace AP
open PySem PySem.Spec PyProof.Rows L2 Evl
def padL (n : Nat) (es : List Int) : List Int := es ++ List.replicate (n - es.length) 0
theorem pad_len {n : Nat} {es : List Int} (h : es.length ≤ n) : (padL n es).length = n := by
  unfold padL
  rw [List.length_append, List.length_replicate]
  omega
theorem pad_getD {n j : Nat} {es : List Int} : (padL n es).getD j 0 = es.getD j 0 := by
  unfold padL
  rw [List.getD_eq_getElem?_getD, List.getD_eq_getElem?_getD]
  by_cases q : j < es.length
  · rw [List.getElem?_append_left q]
  · rw [List.getElem?_append_right (by omega), List.getElem?_eq_none (l := es) (by omega), List.getElem?_replicate]
    split <;> rfl
def aboveT (wd b : Int) (ns es : List Int) (K : Nat) : List (Int × Int × Int) := (List.range K).map fun k => (min (wd - ns.getD k 0) (wd - b), b - ns.getD k 0, es.getD k 0)
theorem above_get {wd b : Int} {ns es : List Int} {K j : Nat} : (aboveT wd b ns es K)[j]? = if j < K then some (min (wd - ns.getD j 0) (wd - b), b - ns.getD j 0, es.getD j 0) else none := by
  unfold aboveT
  rw [List.getElem?_map]
  split
  · rw [List.getElem?_range (by omega)]; rfl
  · rw [List.getElem?_eq_none (by rw [List.length_range]; omega)]; rfl
structure Low (wd b ct : Int) (ps es : List Int) : Prop where
  b1 : 1 ≤ b
  bw : b ≤ wd
  w64 : wd ≤ 64
  nd : ps.Nodup
  ok : ItemsOk (bitsL b (numbersOf ps) ct) es
theorem counted_mono {a b ct : Int} {ns : List Int} (h : a ≤ b) : (countedL a ns ct).length ≤ (countedL b ns ct).length := by
  unfold countedL
  generalize ns.take ct.toNat = l
  induction l with
  | nil => exact Nat.le_refl _
  | cons x l ih =>
    by_cases q : x < a
    · rw [List.filter_cons_of_pos (by simpa using q), List.filter_cons_of_pos (by simp; omega), List.length_cons, List.length_cons]
      omega
    · rw [List.filter_cons_of_neg (by simpa using q)]
      by_cases q2 : x < b
      · rw [List.filter_cons_of_pos (by simpa using q2), List.length_cons]
        omega
      · rw [List.filter_cons_of_neg (by simpa using q2)]
        exact ih
section
variable {wd b ct : Int} {ps es : List Int}
def manyL (wd ct : Int) (ps : List Int) : Nat := (countedL wd (numbersOf ps) ct).length
theorem Low.len (L : Low wd b ct ps es) : es.length ≤ manyL wd ct ps := by
  rw [((items_ix L.nd).mp L.ok).1]
  exact counted_mono L.bw
theorem many_ps (nd : ps.Nodup) : manyL wd ct ps ≤ ps.length := by
  have := counted_sub wd (numbersOf ps) ct
  rw [numbers_len nd] at this
  exact this
theorem many_lt (nd : ps.Nodup) {j : Nat} (h : j < manyL wd ct ps) : 0 ≤ (numbersOf ps).getD j 0 ∧ (numbersOf ps).getD j 0 < wd := by
  have cs := counted_sub wd (numbersOf ps) ct
  have hj : j < (numbersOf ps).length := Nat.lt_of_lt_of_le h cs
  have hm : (numbersOf ps).getD j 0 ∈ countedL wd (numbersOf ps) ct := by
    have e := counted_take (wd := wd) (m := ct) (numbers_asc nd)
    rw [e]
    refine List.mem_take_iff_getElem.mpr ⟨j, by unfold manyL at h; omega, ?_⟩
    rw [List.getD_eq_getElem?_getD, List.getElem?_eq_getElem hj]
    rfl
  exact ⟨numbers_nn nd _ (counted_mem hm).1, (counted_mem hm).2⟩
theorem Low.small (L : Low wd b ct ps es) (j : Nat) : 0 ≤ es.getD j 0 ∧ es.getD j 0 < 2 ^ (b - (numbersOf ps).getD j 0).toNat := by
  by_cases q : j < es.length
  · have := ((items_ix L.nd).mp L.ok).2 j _ (List.getElem?_eq_getElem q)
    rw [List.getD_eq_getElem?_getD, List.getElem?_eq_getElem q]
    exact this.2
  · rw [List.getD_eq_getElem?_getD, List.getElem?_eq_none (by omega)]
    exact ⟨Int.le_refl _, Int.pow_pos (by decide)⟩
theorem pad_words {n : Nat} : wordsL b ps (padL n es) = wordsL b ps es := words_zeros _
theorem Low.mem (L : Low wd b ct ps es) (ds : List Int) : ds ∈ spreadL (aboveT wd b (numbersOf ps) es (manyL wd ct ps)) ↔ ItemsOk (bitsL wd (numbersOf ps) ct) ds ∧ wordsL b ps ds = wordsL b ps es := by
  have bw := L.bw
  have tl : (aboveT wd b (numbersOf ps) es (manyL wd ct ps)).length = manyL wd ct ps := by unfold aboveT; rw [List.length_map, List.length_range]
  rw [spread_mem, tl, items_ix L.nd]
  have key : ∀ j, j < manyL wd ct ps → ∀ x : Int, ((∃ t, (0 ≤ t ∧ t < 2 ^ (min (wd - (numbersOf ps).getD j 0) (wd - b)).toNat) ∧ x = es.getD j 0 + 2 ^ (b - (numbersOf ps).getD j 0).toNat * t) ↔ ((0 ≤ x ∧ x < 2 ^ (wd - (numbersOf ps).getD j 0).toNat) ∧ ((2 : Int) ^ (b - (numbersOf ps).getD j 0).toNat) ∣ x - es.getD j 0)) := fun j hj x => by
    have n := many_lt L.nd hj
    rw [range_iff (by omega) (L.small j).1 (L.small j).2, show (wd - (numbersOf ps).getD j 0).toNat - (b - (numbersOf ps).getD j 0).toNat = (min (wd - (numbersOf ps).getD j 0) (wd - b)).toNat by omega]
  constructor
  · rintro ⟨h1, h2⟩
    have get : ∀ j d, ds[j]? = some d → (0 ≤ d ∧ d < 2 ^ (wd - (numbersOf ps).getD j 0).toNat) ∧ ((2 : Int) ^ (b - (numbersOf ps).getD j 0).toNat) ∣ d - es.getD j 0 := fun j d hd => by
      have hj : j < manyL wd ct ps := by rw [← h1]; exact (List.getElem?_eq_some_iff.mp hd).1
      exact (key j hj d).mp (h2 j _ d (by rw [above_get, if_pos hj]) hd)
    refine ⟨⟨h1, fun j d hd => ⟨?_, (get j d hd).1⟩⟩, ?_⟩
    · exact (many_lt L.nd (by rw [← h1]; exact (List.getElem?_eq_some_iff.mp hd).1)).2
    · rw [← pad_words (es := es) (n := manyL wd ct ps), words_low_iff L.nd (by rw [h1, pad_len L.len]) (by rw [h1]; exact many_ps L.nd)]
      intro j
      rw [pad_getD]
      by_cases q : j < ds.length
      · have := (get j _ (List.getElem?_eq_getElem q)).2
        rw [List.getD_eq_getElem?_getD (l := ds), List.getElem?_eq_getElem q]
        exact this
      · have := L.len
        rw [List.getD_eq_getElem?_getD (l := ds), List.getElem?_eq_none (by omega), List.getD_eq_getElem?_getD (l := es), List.getElem?_eq_none (by omega)]
        exact Int.dvd_zero _
  · rintro ⟨⟨h1, h2⟩, h3⟩
    have h1 : ds.length = manyL wd ct ps := h1
    refine ⟨h1, fun j p x hp hx => ?_⟩
    rw [above_get] at hp
    split at hp
    case isFalse => cases hp
    case isTrue hj =>
    cases hp
    rw [← pad_words (es := es) (n := manyL wd ct ps), words_low_iff L.nd (by rw [h1, pad_len L.len]) (by rw [h1]; exact many_ps L.nd)] at h3
    have h3 := h3 j
    rw [pad_getD, List.getD_eq_getElem?_getD (l := ds), hx] at h3
    exact (key j hj x).mpr ⟨(h2 j x hx).2, h3⟩
theorem range_map {α : Type} {l : List α} {f : Nat → α} (h : ∀ j, j < l.length → l[j]? = some (f j)) : (List.range l.length).map f = l := by
  refine List.ext_getElem? fun j => ?_
  rw [List.getElem?_map]
  by_cases q : j < l.length
  · rw [List.getElem?_range q, h j q]; rfl
  · rw [List.getElem?_eq_none (by rw [List.length_range]; omega), List.getElem?_eq_none (by omega)]; rfl
theorem bits_get {wd ct : Int} {ps : List Int} (nd : ps.Nodup) {j : Nat} (h : j < manyL wd ct ps) : (bitsL wd (numbersOf ps) ct)[j]? = some (wd - (numbersOf ps).getD j 0) := by
  have ce := counted_take (wd := wd) (m := ct) (numbers_asc nd)
  have cs := counted_sub wd (numbersOf ps) ct
  have h : j < (countedL wd (numbersOf ps) ct).length := h
  unfold bitsL
  rw [List.getElem?_map, ce, List.getElem?_take, if_pos h, List.getD_eq_getElem?_getD, List.getElem?_eq_getElem (by omega)]
  rfl
theorem bits_length {wd ct : Int} {ps : List Int} : (bitsL wd (numbersOf ps) ct).length = manyL wd ct ps := by unfold bitsL; rw [List.length_map]; rfl
/-- how many bits are free above -/
def freeB (wd b ct : Int) (ps : List Int) : Int := ((bitsL wd (numbersOf ps) ct).map fun m => min m (wd - b)).sum
theorem above_sum (nd : ps.Nodup) : ((aboveT wd b (numbersOf ps) es (manyL wd ct ps)).map fun p : Int × Int × Int => p.1).sum = freeB wd b ct ps := by
  unfold aboveT freeB
  rw [List.map_map, ← bits_length]
  congr 1
  have := range_map (l := (bitsL wd (numbersOf ps) ct).map fun m => min m (wd - b)) (f := fun k => min (wd - (numbersOf ps).getD k 0) (wd - b)) fun j hj => by
    rw [List.length_map, bits_length] at hj
    rw [List.getElem?_map, bits_get nd hj]
    rfl
  rw [List.length_map] at this
  exact this
theorem Low.count (L : Low wd b ct ps es) : (spreadL (aboveT wd b (numbersOf ps) es (manyL wd ct ps))).length = 2 ^ (freeB wd b ct ps).toNat ∧ 0 ≤ freeB wd b ct ps := by
  have := spread_len (aboveT wd b (numbersOf ps) es (manyL wd ct ps)) fun p hp => by
    obtain ⟨k, hk, rfl⟩ := List.mem_map.mp hp
    have := many_lt L.nd (List.mem_range.mp hk)
    have := L.bw
    show 0 ≤ min _ _
    omega
  rw [above_sum L.nd] at this
  exact this
end
end AP
set_option maxHeartbeats 4000000
/-! Plans of any places. -/
namespace AP
open PySem PySem.Spec PyProof.Rows L2 Evl
structure PlsG (ps : List Int) : Prop where
  nd : ps.Nodup
  rg : ∀ x ∈ ps, 0 ≤ x ∧ x ≤ 2 ^ 64 - 1
theorem PlsG.nodup {ps : List Int} (h : PlsG ps) : ps.Nodup ∧ ∀ x ∈ ps, 0 ≤ x ∧ x ≤ 2 ^ 64 - 1 := ⟨h.nd, h.rg⟩
end AP
set_option maxHeartbeats 4000000
/-! Readings: objects whose fields are told by a call that reads the object itself. -/
namespace AP
open PySem PySem.Spec PyProof.Rows L2 Evl
/-- a reading: the plan of the places that are told, and what their words tell -/
structure ReadV where
  cls : Addr
  pl : PlanV
  found : Option (List Int)
  misfit : Option Int
instance : Obj' ReadV := ⟨ReadV.cls, fun p => [("plan", Py.is p.pl), ("found", Py.is p.found), ("misfit", Py.is p.misfit)]⟩
/-- the places told, ascending -/
def DictI.pt (d : DictI) : List Int := sortI (d.kvs.map (·.1))
/-- known words of places -/
structure KnOk (wd : Int) (ps : List Int) (kn : List (Int × Int)) : Prop where
  asc : (kn.map (·.1)).Pairwise (· < ·)
  sub : ∀ e ∈ kn, e.1 ∈ ps
  rg : ∀ e ∈ kn, 0 ≤ e.2 ∧ e.2 < 2 ^ wd.toNat
  len : kn.length ≤ 100
theorem KnOk.nd {wd : Int} {ps : List Int} {kn : List (Int × Int)} (h : KnOk wd ps kn) : (kn.map (·.1)).Nodup := h.asc.imp fun h q => by omega
theorem KnOk.pt {wd : Int} {ps : List Int} {kn : List (Int × Int)} (h : KnOk wd ps kn) : (DictI.mk kn).pt = kn.map (·.1) := sortI_id h.asc
theorem zip_fs : ∀ kn : List (Int × Int), (kn.map (·.1)).zip (kn.map (·.2)) = kn
  | [] => rfl
  | e :: kn => by rw [List.map_cons, List.map_cons, List.zip_cons_cons, zip_fs kn]
/-- a told dict of words -/
structure ToldOk (wd : Int) (d : DictI) : Prop where
  nd : (d.kvs.map (·.1)).Nodup
  len : d.kvs.length ≤ 100
  rg : ∀ e ∈ d.kvs, 0 ≤ e.2 ∧ e.2 < 2 ^ wd.toNat
  small : ∀ e ∈ d.kvs, 0 ≤ e.1 ∧ e.1 ≤ 2 ^ 64 - 1
theorem ToldOk.val {wd : Int} {d : DictI} (h : ToldOk wd d) {x : Int} (hx : x ∈ d.pt) : 0 ≤ valI d x ∧ valI d x < 2 ^ wd.toNat := by
  obtain ⟨e, he, rfl⟩ := List.mem_map.mp ((sortI_perm _).mem_iff.mp hx)
  obtain ⟨i, hi⟩ := List.mem_iff_getElem?.mp he
  have hz := val_zip (ps := d.kvs.map (·.1)) (ws := d.kvs.map (·.2)) h.nd (by rw [List.length_map, List.length_map]) (i := i) (x := e.1) (y := e.2) (by rw [List.getElem?_map, hi]; rfl) (by rw [List.getElem?_map, hi]; rfl)
  rw [zip_fs] at hz
  rw [show valI d e.1 = valI (DictI.mk d.kvs) e.1 from rfl, hz]
  exact h.rg e he
end AP
set_option maxHeartbeats 4000000
/-! Comprehensions whose list is changed later; lists of pairs that are written at an index; tests that are drawn behind a told one. -/
namespace AP
open PySem PySem.Spec PyProof.Rows L2 Evl
section
variable {K : PySem.W.Frag} {G : Option Addr} {c c0 c1 c2 : Nat} {te ta ti tl : TE} {tt tu : TT} {g : TG} {Γ : AP.Ctx} {α β : Type} [Py α] [Py β] {A : α → Prop} {B B' H H' B0 H0 : Hp} {σ : L2.St} {z z' z0 : Int} {D : Ends} {tz : TS}
/-- a new list that is not known yet -/
def TyOpn (G : Option Addr) (c : Nat) (te : TE) (Γ : AP.Ctx) {α : Type} [Py α] (A : List α → Prop) : Prop :=
  ∀ z B σ H, Slo B σ Γ → At G z B H → z + c ≤ 2 ^ 50 → ∀ Q : VK, (∀ ys D us z' B' H', A ys → Nx G c z B H z' B' H' → H' D = some (.lst us) → B' D = none → H D = none → Each B' ys us → Q (.ref D) H') → te σ H Q
theorem TyOpn.imp {A A' : List α → Prop} (h : TyOpn G c te Γ A) (i : ∀ x, A x → A' x) : TyOpn G c te Γ A' := fun z B σ H en s hz Q q => h z B σ H en s hz Q fun ys D us z' B' H' a => q ys D us z' B' H' (i ys a)
end
end AP
set_option maxHeartbeats 4000000
/-! A dict of lists, by tuples of whole numbers: d.get(t, xs), d[t] = xs; it is changed by turns. -/
namespace AP
open PySem PySem.Spec PyProof.Rows L2 Evl
inductive EachDL (B : Hp) : List (TupI × List Int) → List (List L2.Key × V) → Prop
  | nil : EachDL B [] []
  | cons {t : TupI} {xs : List Int} {v : V} {r : List (TupI × List Int)} {us : List (List L2.Key × V)} (h : Py.is xs v B) (n : EachDL B r us) : EachDL B ((t, xs) :: r) ((keyI t, v) :: us)
def getT (kvs : List (TupI × List Int)) (t : TupI) : Option (List Int) := (kvs.find? fun e => decide (e.1 = t)).map (·.2)
def putT (kvs : List (TupI × List Int)) (t : TupI) (xs : List Int) : List (TupI × List Int) := if (kvs.any fun e => decide (e.1 = t)) = true then kvs.map (fun e => if e.1 = t then (e.1, xs) else e) else kvs ++ [(t, xs)]
section
variable {B B' : Hp} {kvs : List (TupI × List Int)} {us : List (List L2.Key × V)} {t : TupI}
theorem EachDL.ex (h : EachDL B kvs us) (e : Ex B B') : EachDL B' kvs us := by
  induction h with
  | nil => exact .nil
  | cons h _ ih => exact .cons (Py.st _ _ _ _ e h) ih
theorem EachDL.len (h : EachDL B kvs us) : us.length = kvs.length := by
  induction h with
  | nil => rfl
  | cons _ _ ih => rw [List.length_cons, List.length_cons, ih]
theorem key_dec {s t : TupI} : decide (keyI s = keyI t) = decide (s = t) := by
  by_cases e : s = t
  · rw [e, decide_eq_true rfl, decide_eq_true rfl]
  · rw [decide_eq_false e, decide_eq_false fun q => e (keyI_inj q)]
theorem EachDL.get (h : EachDL B kvs us) : (∃ y v, getT kvs t = some y ∧ valV us (keyI t) = some v ∧ Py.is y v B) ∨ (getT kvs t = none ∧ valV us (keyI t) = none) := by
  induction h with
  | nil => exact .inr ⟨rfl, rfl⟩
  | @cons s xs v r us h _ ih =>
    unfold getT valV at *
    rw [List.find?_cons, List.find?_cons, key_dec]
    by_cases e : s = t
    · rw [decide_eq_true e]
      exact .inl ⟨_, _, rfl, rfl, h⟩
    · rw [decide_eq_false e]
      exact ih
theorem EachDL.any (h : EachDL B kvs us) : (us.any fun kv => decide (kv.1 = keyI t)) = kvs.any fun e => decide (e.1 = t) := by
  induction h with
  | nil => rfl
  | cons _ _ ih => rw [List.any_cons, List.any_cons, ih, key_dec]
theorem EachDL.put {xs : List Int} {v : V} (h : EachDL B kvs us) (hv : Py.is xs v B) : EachDL B (putT kvs t xs) (putK us (keyI t) v) := by
  unfold putT putK
  rw [h.any]
  split
  · rename_i q
    clear q
    induction h with
    | nil => exact .nil
    | @cons s ys w r us h _ ih =>
      rw [List.map_cons, List.map_cons]
      by_cases e : s = t
      · subst e
        rw [if_pos rfl, if_pos rfl]
        exact .cons hv ih
      · rw [if_neg e, if_neg fun q => e (keyI_inj q)]
        exact .cons h ih
  · rename_i q
    clear q
    induction h with
    | nil => exact .cons hv .nil
    | cons h _ ih => exact .cons h ih
end
structure DicL where
  kvs : List (TupI × List Int)
instance : Py DicL := ⟨fun d v B => ∃ p us, v = .ref p ∧ B p = some (.dT us) ∧ EachDL B d.kvs us, fun _ _ _ _ e ⟨p, us, h1, h2, h3⟩ => ⟨p, us, h1, e _ _ h2, h3.ex e⟩⟩
end AP
set_option maxHeartbeats 4000000
/-! list(range(a, b)) of any whole numbers: short, but far off. -/
namespace AP.Big
open PySem PySem.Spec
end AP.Big
namespace AP
open PySem PySem.Spec PyProof.Rows L2 Evl
end AP
set_option maxHeartbeats 4000000
/-! t not in d, for a dict of tuples that is changed by turns; a new dict and a new list at once. -/
namespace AP
open PySem PySem.Spec PyProof.Rows L2 Evl
end AP
set_option maxHeartbeats 4000000
/-! sorted(lists of whole numbers): which list it is. -/
namespace AP
open PySem PySem.Spec PyProof.Rows L2 Evl PySem.W
end AP
set_option maxHeartbeats 4000000
/-! Two names at once, the first one a new list that is changed later. -/
namespace AP
open PySem PySem.Spec PyProof.Rows L2 Evl
section
variable {K : PySem.W.Frag} {G : Option Addr} {c c0 c1 c2 : Nat} {te ta tb : TE} {Γ : AP.Ctx} {β : Type} [Py β] {B B' H H' B0 H0 : Hp} {σ : L2.St} {z z' z0 : Int} {D : Ends} {tz : TS}
theorem q_par2LX {i j : Nat} {A1 : List Int → Prop} {A2 : β → Prop} (s0 : At G z0 B0 H0) (n : Nx G c0 z0 B0 H0 z B H) (en : Slo B σ Γ) (h1 : TyN G c1 ta Γ A1) (h2 : Ty G c2 tb Γ A2) (hz : z0 + (c0 + (c1 + c2)) ≤ 2 ^ 50)
    (kk : ∀ y x ly z' B' H' σ', A1 y → A2 x → Gro H0 B' H' ly y → Nx G (c1 + c2) z B H z' B' H' → Nx G (c0 + (c1 + c2)) z0 B0 H0 z' B' H' → Slo B' σ' ((Γ.set i (some (RefP ly))).set j (some (Py.is x))) → tz D σ' H') :
    tSeq (tPar i j (tCons ta (tCons tb tNil))) tz D σ H := by
  refine TyN.gro s0 n en h1 (by omega) _ fun y ly z1 B1 H1 ay ey gy n1 => ?_
  have m1 := n.trans s0 n1
  refine h2 z1 B1 σ H1 (en.up n1.up) n1.at_ (by have := m1.hi; omega) _ fun x v z2 B2 H2 ax n2 hv => ?_
  have nn := n1.trans n.at_ n2
  exact ⟨_, _, rfl, kk y x ly _ _ _ _ ay ax (gy.step s0 n2) nn (n.trans s0 nn) ((((en.up n1.up).up n2.up).set RefP.stays rfl).put hv)⟩
end
end AP
set_option maxHeartbeats 4000000
/-! A dict of numbers by numbers that grows: made of pairs, written, read as a whole between two writes. -/
namespace AP
open PySem PySem.Spec PyProof.Rows L2 Evl
structure EachK (B : Hp) (kvs : List (Int × Int)) (us : List (L2.Key × V)) : Prop where
  eq : us = kvs.map kvI
theorem EachK.ex {B B' : Hp} {kvs : List (Int × Int)} {us : List (L2.Key × V)} (h : EachK B kvs us) (_ : Ex B B') : EachK B' kvs us := ⟨h.eq⟩
end AP
set_option maxHeartbeats 4000000
/-! sorted(pairs of whole numbers): which list it is; a new list of some items of another. -/
namespace AP
open PySem PySem.Spec PyProof.Rows L2 Evl PySem.W
/-! ### in order -/
end AP
namespace AP
open PySem PySem.Spec PyProof.Rows L2 Evl PySem.W
end AP
set_option maxHeartbeats 4000000
/-! Tuples of whole numbers: written, put together, read by an index; a value and a new dict at once. -/
namespace AP
open PySem PySem.Spec PyProof.Rows L2 Evl
section
variable {K : PySem.W.Frag} {G : Option Addr} {c c0 c1 c2 : Nat} {ta tb te : TE} {Γ : AP.Ctx} {β : Type} [Py β] {B B' H H' B0 H0 : Hp} {σ : L2.St} {z z' z0 : Int} {D : Ends} {tz : TS}
theorem ty_tupI0 : Ty G 0 (tTup tNil) Γ (· = TupI.mk []) := fun z B σ H en s hz Q q =>
  ⟨by show 0 ≤ sizeLine; exact Nat.zero_le _, fun p hp => q _ _ _ _ _ rfl (Nx.alloc s hp) ⟨p, rfl, upd_same⟩⟩
theorem ty_tupI1 {x : Int} (h : Ty G c te Γ (· = x)) : Ty G c (tTup (tCons te tNil)) Γ (· = TupI.mk [x]) := fun z B σ H en s hz Q q => by
  refine h z B σ H en s hz _ fun x' v z1 B1 H1 ex n1 hv => ?_
  subst ex
  cases (show v = .int x' from hv)
  refine ⟨sz_of (by simp), fun p hp => ?_⟩
  exact q _ _ _ _ _ rfl ((n1.trans s (Nx.alloc (o := .tup [.int x']) n1.at_ hp)).le (by omega)) ⟨p, rfl, upd_same⟩
end
end AP
set_option maxHeartbeats 4000000
/-! break in a for. -/
namespace AP
open PySem PySem.Spec PyProof.Rows L2 Evl
end AP
set_option maxHeartbeats 4000000
/-! Two lists that grow and a value, at once. -/
namespace AP
open PySem PySem.Spec PyProof.Rows L2 Evl
end AP
set_option maxHeartbeats 4000000
/-! Lists of lists that are new, all of them apart. -/
namespace AP
open PySem PySem.Spec PyProof.Rows L2 Evl
/-- a list of lists, each of them an object of its own -/
structure LLN where
  xs : List (List Int)
instance : Py LLN := ⟨fun x v B => ∃ (l : Addr) (us : List V), v = .ref l ∧ B l = some (.lst us) ∧ Each B x.xs us ∧ us.Nodup ∧ V.ref l ∉ us,
  fun x v B B' e ⟨l, us, h1, h2, h3, h4, h5⟩ => ⟨l, us, h1, e _ _ h2, h3.ex e, h4, h5⟩⟩
end AP
set_option maxHeartbeats 4000000
/-! A list of lists told new, read, and then one of its lists changed. -/
namespace AP
open PySem PySem.Spec PyProof.Rows L2 Evl
/-- new as from B1 -/
structure NewV (B1 : Hp) (α : Type) where
  v : α
instance {B1 : Hp} {α : Type} [Py α] : Py (NewV B1 α) := ⟨fun x w B => Py.is x.v w (diff B B1), fun x w B B' e h => Py.st x.v w _ _ (diff_up e) h⟩
/-- a list whose first item is forgotten -/
structure TailL where
  xs : List (List Int)
instance : Py TailL := ⟨fun x v B => ∃ (l : Addr) (u : V) (us : List V), v = .ref l ∧ B l = some (.lst (u :: us)) ∧ Each B x.xs us, fun x v B B' e ⟨l, u, us, h1, h2, h3⟩ => ⟨l, u, us, h1, e _ _ h2, h3.ex e⟩⟩
/-- what stays known when the first list is changed -/
inductive Sunk (B1 B2 : Hp) : Ctx → Ctx → Prop
  | nil : Sunk B1 B2 [] []
  | old {α : Type} [Py α] (x : α) {Γ Γ' : Ctx} : Sunk B1 B2 Γ Γ' → Sunk B1 B2 (some (Py.is (OldV.mk x : OldV B1 α)) :: Γ) (some (Py.is x) :: Γ')
  | flat {P : VP} (f : Flat P) {Γ Γ' : Ctx} : Sunk B1 B2 Γ Γ' → Sunk B1 B2 (some P :: Γ) (some P :: Γ')
  | skip {o : Option VP} {Γ Γ' : Ctx} : Sunk B1 B2 Γ Γ' → Sunk B1 B2 (o :: Γ) (none :: Γ')
  | tail {P : VP} {v0 : V} {fs : List (List Int)} (h : Py.is (TailL.mk fs) v0 B2) {Γ Γ' : Ctx} : Sunk B1 B2 Γ Γ' → Sunk B1 B2 (some (fun u B => u = v0 ∧ P u B) :: Γ) (some (Py.is (TailL.mk fs)) :: Γ')
theorem Sunk.ok {B1 B2 B : Hp} {Γ Γ' : Ctx} (e : Ex B1 B2) (a : Sunk B1 B2 Γ Γ') : Γ'.length = Γ.length ∧ ∀ (k : Nat) (P2 : VP), Γ'[k]? = some (some P2) → ∃ P : VP, Γ[k]? = some (some P) ∧ Stays P2 ∧ ∀ v, P v B → P2 v B2 := by
  induction a with
  | nil => exact ⟨rfl, fun k P2 h => by simp at h⟩
  | @old α _ x Γ Γ' _ ih =>
    refine ⟨by rw [List.length_cons, List.length_cons, ih.1], fun k P2 h => ?_⟩
    cases k with
    | zero =>
      have h : Py.is x = P2 := by simpa using h
      subst h
      exact ⟨_, rfl, Py.stays x, fun v q => Py.st x v B1 B2 e q.1⟩
    | succ k => exact ih.2 k P2 (by simpa using h)
  | @flat P f Γ Γ' _ ih =>
    refine ⟨by rw [List.length_cons, List.length_cons, ih.1], fun k P2 h => ?_⟩
    cases k with
    | zero =>
      have h : P = P2 := by simpa using h
      subst h
      exact ⟨_, rfl, fun v B B' _ q => f v B B' q, fun v q => f v B B2 q⟩
    | succ k => exact ih.2 k P2 (by simpa using h)
  | @skip o Γ Γ' _ ih =>
    refine ⟨by rw [List.length_cons, List.length_cons, ih.1], fun k P2 h => ?_⟩
    cases k with
    | zero => simp at h
    | succ k => exact ih.2 k P2 (by simpa using h)
  | @tail P v0 fs h0 Γ Γ' _ ih =>
    refine ⟨by rw [List.length_cons, List.length_cons, ih.1], fun k P2 h => ?_⟩
    cases k with
    | zero =>
      have h : Py.is (TailL.mk fs) = P2 := by simpa using h
      subst h
      exact ⟨_, rfl, Py.stays _, fun v q => q.1 ▸ h0⟩
    | succ k => exact ih.2 k P2 (by simpa using h)
section
variable {K : PySem.W.Frag} {G : Option Addr} {c c0 c1 c2 c3 : Nat} {te ta tb tc tl : TE} {Γ : AP.Ctx} {α β : Type} [Py α] [Py β] {B B' H H' B0 H0 B1 H1 : Hp} {σ : L2.St} {z z' z0 z1 : Int} {D : Ends} {tz : TS}
theorem Slo.pin {k : Nat} {P : VP} (en : Slo B σ Γ) (hk : Γ[k]? = some (some P)) : ∃ v, σ[k]? = some (some v) ∧ P v B ∧ Slo B σ (Γ.set k (some fun u B2 => u = v ∧ P u B2)) := by
  obtain ⟨v, h1, h2, h3⟩ := en.all k P hk
  refine ⟨v, h1, h3, ⟨by rw [List.length_set]; exact en.len, fun j R q => ?_⟩⟩
  by_cases e : k = j
  · subst e
    obtain ⟨kl, _⟩ := List.getElem?_eq_some_iff.mp hk
    rw [List.getElem?_set_self kl] at q
    have q : (fun u B2 => u = v ∧ P u B2) = R := by injection q with q; injection q
    subst q
    exact ⟨v, h1, fun u B B' e p => ⟨p.1, h2 u B B' e p.2⟩, rfl, h3⟩
  · rw [List.getElem?_set_ne e] at q
    exact en.all j R q
end
end AP
set_option maxHeartbeats 4000000
/-! list(range(n)) as a new list. -/
namespace AP
open PySem PySem.Spec PyProof.Rows L2 Evl
end AP
set_option maxHeartbeats 4000000
/-! xs[a drawn index] = a drawn number. -/
namespace AP
open PySem PySem.Spec PyProof.Rows L2 Evl
open DatOf (toD)
end AP
set_option maxHeartbeats 4000000
/-! right(generator(script, e)) with any whole number e that is known. -/
namespace AP
open PySem PySem.Spec PyProof.Rows L2 Evl
end AP
set_option maxHeartbeats 4000000
/-! A new list assigned from an expression that reads a list that grows. -/
namespace AP
open PySem PySem.Spec PyProof.Rows L2 Evl
theorem no_err (y : ErrV) (v : V) (B : Hp) (h : Py.is y v B) : v ≠ .non := by
  obtain ⟨a, d, rfl, _⟩ := h
  intro q
  cases q
end AP
set_option maxHeartbeats 4000000
/-! A head that tells of classes of errors, too. -/
namespace AP
open PySem PySem.Spec PyProof.Rows L2 Evl
def oexB (K : PySem.W.Frag) (C : Addr) : Bool := match K.lookup C with
  | some ⟨.type "type", _, .cls cd, sl⟩ => (match cd.mro, sl.toList with
    | .ref C' :: bm, [_, _, _, _, some (.builtin n), _] => decide (C' = C) && (decide (n = "ValueError.__new__") && (!cd.hasDel && (cd.hasDict && PySem.HandSPX.refsVE bm)))
    | _, _ => false)
  | _ => false
theorem oexB_ok {K : PySem.W.Frag} {C : Addr} (h : oexB K C = true) : ∃ nm q N bs bm sn sub ab col dd k0 k1 k2 k3 k5,
    K.lookup C = some (excClassObj nm q C N bs bm true sn sub ab col dd k0 k1 k2 k3 k5 "ValueError.__new__") ∧ PySem.HandSPX.refsVE bm = true := by
  unfold oexB at h
  split at h
  · rename_i dd cd sl there
    split at h
    · rename_i C' bm k0 k1 k2 k3 n k5 mro slots
      simp only [Bool.and_eq_true, decide_eq_true_eq, Bool.not_eq_true'] at h
      obtain ⟨e1, e2, del, dict, refs⟩ := h
      obtain ⟨nm, bs, mr, ns, qn, hd, sn, sub, ab, col, dl⟩ := cd
      dsimp only at mro del dict
      subst mro del dict e1 e2
      have es : sl = #[k0, k1, k2, k3, some (.builtin "ValueError.__new__"), k5] := by
        obtain ⟨l⟩ := sl
        simp only at slots
        rw [slots]
      subst es
      exact ⟨nm, qn, ns, bs, bm, sn, sub, ab, col, dd, k0, k1, k2, k3, k5, there, refs⟩
    · cases h
  · cases h
def eqV (a b : Option Value) : Bool := decide (a = b)
def eqT (a : Option Bool) (b : Bool) : Bool := decide (a = some b)
def errKB (K : PySem.W.Frag) (C : Addr) : Bool := (PySem.W.clsIn K C).isSome && (He.eqO (PySem.W.findIn K (.ref C) "__getattribute__") (some (some (.builtin "BaseException.__getattribute__"))) &&
  (He.eqO (PySem.W.findIn K (.ref C) "__getattr__") (some none) && (eqT (PySem.W.subIn K (.ref C) (.type "BaseException")) true && (He.eqO (PySem.W.findIn K (.ref C) "__class__") (some (some (.builtin "object.__class__"))) &&
  (He.eqO (PySem.W.specialIn K (.builtin "object.__class__") "__get__") (some (some (.builtin "getset_descriptor.__get__"))) && (eqT (PySem.W.takesIn K (.builtin "object.__class__")) true && eqT (PySem.W.mroIn K C (.type "object")) true))))))
theorem errKB_ok {K : PySem.W.Frag} {C : Addr} (h : errKB K C = true) : ErrK K C := by
  simp only [errKB, eqT, He.eqO, Bool.and_eq_true, decide_eq_true_eq] at h
  obtain ⟨h1, h2, h3, h4, h5, h6, h7, h8⟩ := h
  exact ⟨h1, h2, h3, h4, h5, h6, h7, h8⟩
def errCB (K : PySem.W.Frag) (C : Addr) : Bool := oexB K C && (He.eqO (PySem.W.findIn K (.ref C) "__setattr__") (some (some (.builtin "object.__setattr__"))) && (eqT (PySem.W.subIn K (.ref C) (.type "BaseException")) true &&
  (eqV (PySem.W.typeIn K (.ref C)) (some (.type "type")) && (PySem.W.keepIn K (.ref C) && (He.eqO (PySem.W.findIn K (.ref C) "__init__") (some (some (.ref (He.ma K C "__init__")))) &&
  (eqV (PySem.W.typeIn K (.ref (He.ma K C "__init__"))) (some (.type "function")) && (PySem.W.hasDictIn K C && He.eqO (PySem.W.findIn K (.ref C) "value") (some none))))))))
theorem errCB_ok {K : PySem.W.Frag} {C : Addr} (h : errCB K C = true) : ErrC K C (He.ma K C "__init__") ∧ PySem.W.hasDictIn K C = true ∧ PySem.W.findIn K (.ref C) "value" = some none := by
  simp only [errCB, eqT, eqV, He.eqO, Bool.and_eq_true, decide_eq_true_eq] at h
  obtain ⟨h1, h2, h3, h4, h5, h6, h7, h8, h9⟩ := h
  exact ⟨⟨⟨oexB_ok h1, h2, h3, h4, h5⟩, h6, h7⟩, h8, h9⟩
def baseB (K : PySem.W.Frag) (B : Addr) : Bool := PySem.W.readsIn K B (.type "type") && (He.eqO (PySem.W.specialIn K (.ref B) "__getattribute__") (some (some (.builtin "type.__getattribute__"))) &&
  (match PySem.W.findCls K (.ref B) (.type "type") "__init__" with
    | some (.val (.builtin n)) => decide (n = "ValueError.__init__")
    | _ => false))
theorem baseB_ok {K : PySem.W.Frag} {B : Addr} (h : baseB K B = true) : BaseI K B := by
  simp only [baseB, He.eqO, Bool.and_eq_true, decide_eq_true_eq] at h
  obtain ⟨h1, h2, h3⟩ := h
  refine ⟨h1, h2, ?_⟩
  split at h3
  · rename_i n e
    rw [e, of_decide_eq_true h3]
  · cases h3
/-- all that is wanted of the errors with these names -/
def exE (K : PySem.W.Frag) (E : List Str) : Bool := baseB K (He.ga K "CodeError") && ((E.all fun x => errKB K (He.ga K x) && (errCB K (He.ga K x) && (eqT (PySem.W.kitOne K (.ref (He.ga K x)) (.type "ValueError")) true && eqT (PySem.W.exmOne K (.ref (He.ga K x)) (.ref (He.ga K "CodeError"))) true))) &&
  (E.all fun x => E.all fun y => eqT (PySem.W.kitOne K (.ref (He.ga K x)) (.ref (He.ga K y))) (decide (y = x))))
structure ExE (K : PySem.W.Frag) (E : List Str) : Prop where
  base : BaseI K (He.ga K "CodeError")
  k : ∀ x ∈ E, ErrK K (He.ga K x)
  c : ∀ x ∈ E, ErrC K (He.ga K x) (He.ma K (He.ga K x) "__init__") ∧ PySem.W.hasDictIn K (He.ga K x) = true ∧ PySem.W.findIn K (.ref (He.ga K x)) "value" = some none
  v : ∀ x ∈ E, PySem.W.kitOne K (.ref (He.ga K x)) (.type "ValueError") = some true
  m : ∀ x ∈ E, PySem.W.exmOne K (.ref (He.ga K x)) (.ref (He.ga K "CodeError")) = some true
  kit : ∀ x ∈ E, ∀ y ∈ E, PySem.W.kitOne K (.ref (He.ga K x)) (.ref (He.ga K y)) = some (decide (y = x))
theorem exE_ok {K : PySem.W.Frag} {E : List Str} (h : exE K E = true) : ExE K E := by
  simp only [exE, Bool.and_eq_true, List.all_eq_true] at h
  obtain ⟨h1, h2, h3⟩ := h
  exact ⟨baseB_ok h1, fun x hx => errKB_ok (h2 x hx).1, fun x hx => errCB_ok (h2 x hx).2.1, fun x hx => of_decide_eq_true (h2 x hx).2.2.1, fun x hx => of_decide_eq_true (h2 x hx).2.2.2, fun x hx y hy => of_decide_eq_true (h3 x hx y hy)⟩
theorem ExE.facts {K : PySem.W.Frag} {E : List Str} {mg : Str → Option Value} (x : ExE K E) (m : ∀ y ∈ E, mg y = some (.ref (He.ga K y))) (b : mg "CodeError" = some (.ref (He.ga K "CodeError"))) : ErrF K mg (He.ga K) E :=
  ⟨m, b, fun y hy => ⟨x.k y hy, (x.c y hy).2.1, (x.c y hy).2.2⟩, x.kit, x.v, x.m⟩
abbrev AlE : Type := He.AlD × Bool
def asE (g : Addr → Option Obj) (n : Nat) : List Addr := cStatics :: He.asD g n
def obsE (fa : List He.Fa) (fn : List He.DefD) (E : List Str) (n : Nat) (g : Addr → Option Obj) : AlE := (He.obsD fa fn (He.frG g (asE g n)), exE (He.frG g (asE g n)) E)
theorem obsE_two {fa : List He.Fa} {fn : List He.DefD} {E : List Str} {n : Nat} {g : Addr → Option Obj} {a : He.AlD} {b : Bool} (e : obsE fa fn E n g = (a, b)) : He.obsD fa fn (He.frG g (asE g n)) = a ∧ exE (He.frG g (asE g n)) E = b := Prod.mk.inj e
def SaysE (fa : List He.Fa) (fn : List He.DefD) (E : List Str) (K : PySem.W.Frag) : Prop := He.SaysD fa fn K ∧ exE K E = true
def hookE (n : Nat) (fa : List He.Fa) (fn : List He.DefD) (E : List Str) : PySem.W.Hook where
  α := AlE
  obs := fun s => obsE fa fn E n s.heap.get?
  val := fun _ => (He.valD fn, true)
  says := fun _ h => ∃ K : PySem.W.Frag, K.In h ∧ SaysE fa fn E K
  of := fun _ _ e => ⟨_, He.frG_in, obsE_two e⟩
  keeps := fun _ _ _ ⟨K, hK, c⟩ k => ⟨K, PySem.W.Frag.In.keeps hK k, c⟩
def obE (n : Nat) (fa : List He.Fa) (fn : List He.DefD) (E : List Str) (s : PySem.W.SharedT) : AlE := obsE fa fn E n (HandSHeadRun.getT s)
theorem obE_eq {n : Nat} {fa : List He.Fa} {fn : List He.DefD} {E : List Str} (s : PySem.W.SharedT) : obE n fa fn E s = (hookE n fa fn E).obs s.abs := by
  have e : HandSHeadRun.getT s = s.abs.heap.get? := funext (HandSHeadRun.getT_eq s)
  show obsE fa fn E n (HandSHeadRun.getT s) = obsE fa fn E n s.abs.heap.get?
  rw [e]
theorem binds_ini {K : PySem.W.Frag} {qual : Str} {a : Arguments} {p q : Pos} {n m : Option Expr} {d : Expr} {body : List Stmt} {scope : Scope} {kws} {f : Addr} {fd : FuncData}
    (F : FunD K "__init__" qual a body scope [.non] kws f fd) (e : a = ⟨[], [⟨"self", n, p⟩, ⟨"value", m, q⟩], none, [], [], none, [d]⟩) : Binds K fd ["self", "value"] [] := by
  subst e
  obtain ⟨ds2, v2, B2⟩ := FunD.binds1 (ps := ["self", "value"]) F 2 1 (List.cons_ne_nil _ _) rfl fun _ _ _ _ _ _ _ us its hu hi => match us, its, hu, hi with | [_, _], [_], _, _ => ⟨_, rfl, rfl⟩
  cases v2
  exact B2
end AP
set_option maxHeartbeats 4000000
/-! An error is caught by its own class. -/
namespace AP
open PySem PySem.Spec PyProof.Rows L2 Evl
end AP
set_option maxHeartbeats 4000000
/-! Two names at once, the first a new list; x = sorted([xs.pop(..) for ..]). -/
namespace AP
open PySem PySem.Spec PyProof.Rows L2 Evl
end AP
set_option maxHeartbeats 4000000
/-! [drawn by x for x in xs]: what is told of each place. -/
namespace AP
open PySem PySem.Spec PyProof.Rows L2 Evl
end AP
set_option maxHeartbeats 4000000
/-! Defs out of a list called; x if b else y of calls that raise; values with what stands for them, listed. -/
namespace AP
open PySem PySem.Spec PyProof.Rows L2 Evl
def tCallFE (tf : TE) (S : Addr → Sp → Prop) (E : XK) (t : TA) : TE := fun σ H Q => tf σ H fun y H1 => ∃ f sp, y = .ref f ∧ S f sp ∧ t σ H1 fun vs H2 => sp (vs ++ []) H2 Q E
section
variable {X : Cx} {k i : Nat} {S : Addr → Sp → Prop} {E : XK} {pos : Pos} {fe e : Expr} {es : List Expr} {t : TA} {tf : TE}
theorem pe_callFE (A : ∀ f sp, S f sp → HeldX X.prog X.w X.K X.mg X.base k f sp) (hr : Room k X.A) (tk : Takes X (fun cls d _ H => E cls d H)) (hf : PE X fe tf) (ha : PA X (e :: es) t)
    (ht : eval (.Call fe (e :: es) [] pos) X.env = (do callWith pos (← eval fe X.env) [] (backTo pos (starEach (e :: es) X.env)) (backToKw pos (keywordEach [] X.env))) := by rfl)
    (he : starEach (e :: es) X.env = (false, eval e X.env) :: starEach es X.env := by rfl) (hpl : (backTo pos (starEach es X.env)).any (·.1) = false := by rfl) :
    PE X (.Call fe (e :: es) [] pos) (tCallFE tf S E t) := by
  refine ⟨fun pins s σ H Q I h => ?_⟩
  refine PyProof.Rows.Call_ (thn (hf.run pins s σ H _ I h) fun u s1 ⟨y, H1, I1, ry, f, sp, ey, hS, q⟩ => ?_) ht
  subst ey
  obtain rfl : u = Value.ref f := ry
  obtain ⟨fd, ps, hk, hb, F⟩ := (A f sp hS).ex
  refine PySem.W.callWith_K (h₀ := X.base) I.ok.mod.kin hk (thn (ha.run pos pins s1 σ _ _ I1 q) fun us s2 ⟨vs, H2, I2, r, q2⟩ => ⟨I2.kIn, ?_⟩) he hpl
  exact run_fnSD F hr hb .nil (passAt tk σ) I2 r q2
end
section
variable {K : PySem.W.Frag} {G : Option Addr} {c c0 c1 c2 c3 : Nat} {te ta tb tx tf : TE} {tt : TT} {Γ : Ctx} {ι α β γ : Type} [Py α] [Py β] [Py γ] {A : α → Prop} {Ps : List VP} {tr : TA} {B B' H B0 H0 : Hp} {v w : V}
  {σ : L2.St} {z z0 : Int} {D : Ends} {t t1 t2 tz : TS} {E : XK} {S : Addr → Sp → Prop} {Er : Addr × V → Prop}
theorem ty_callFE {C : ConX ι β} {f : Addr} (i : ι) (hf : Ty G c0 tf Γ (· = FnV.mk f)) (hS : S f C.spX) (h : TyA G c1 tr Γ (C.args i)) (p : C.pre i G) : TyX G (c0 + (c1 + C.c i)) (tCallFE tf S E tr) Γ (fun x => C.err i = none ∧ C.post i x) (fun e => C.err i = some e) E := fun z B σ H en s hz Q qE q => by
  refine hf z B σ H en s (by omega) _ fun y w z1 B1 H1 ey n1 hw => ?_
  subst ey
  refine ⟨f, C.spX, hw, hS, ?_⟩
  refine h z1 B1 σ H1 (en.up n1.up) n1.at_ (by have := n1.hi; omega) _ fun vs z2 B2 H2 al n2 => ?_
  have n12 := n1.trans s n2
  refine ⟨i, G, z2, B2, by rw [List.append_nil]; exact al, p, n2.at_, by have := n12.hi; omega, fun e0 y w z' B' H' py n3 hw => ?_, fun e he d z' B' H' n3 hd => ?_⟩
  · exact q y w z' B' H' ⟨e0, py⟩ ((n12.trans s n3).le (by omega)) hw
  · exact qE e he d z' B' H' ((n12.trans s n3).le (by omega)) hd
theorem ty_ifX {b : Bool} {Er1 Er2 : Addr × V → Prop} {A1 A2 : α → Prop} (h : TyT G c1 tt Γ (· = b)) (h1 : b = true → TyX G c2 ta Γ A1 Er1 E) (h2 : b = false → TyX G c3 tb Γ A2 Er2 E) :
    TyX G (c1 + (c2 + c3)) (tIf tt ta tb) Γ (fun x => if b = true then A1 x else A2 x) (fun e => if b = true then Er1 e else Er2 e) E := fun z B σ H en s hz Q qE q => by
  refine h z B σ H en s (by omega) _ fun x z1 B1 H1 ax n1 => ?_
  subst ax
  cases x with
  | true =>
    show ta σ H1 Q
    refine h1 rfl z1 B1 σ H1 (en.up n1.up) n1.at_ (by have := n1.hi; omega) _ (fun e he d z' B' H' n2 hd => qE e (by show (if true = true then Er1 e else Er2 e); rw [if_pos rfl]; exact he) d z' B' H' ((n1.trans s n2).le (by omega)) hd) fun y w z2 B2 H2 ay n2 hw => ?_
    exact q y w z2 B2 H2 (by show (if true = true then A1 y else A2 y); rw [if_pos rfl]; exact ay) ((n1.trans s n2).le (by omega)) hw
  | false =>
    show tb σ H1 Q
    refine h2 rfl z1 B1 σ H1 (en.up n1.up) n1.at_ (by have := n1.hi; omega) _ (fun e he d z' B' H' n2 hd => qE e (by show (if false = true then Er1 e else Er2 e); rw [if_neg (by decide)]; exact he) d z' B' H' ((n1.trans s n2).le (by omega)) hd) fun y w z2 B2 H2 ay n2 hw => ?_
    exact q y w z2 B2 H2 (by show (if false = true then A1 y else A2 y); rw [if_neg (by decide)]; exact ay) ((n1.trans s n2).le (by omega)) hw
end
end AP
set_option maxHeartbeats 4000000
/-! repr of data with empty dicts. -/
namespace AP
open PySem PySem.Spec PyProof.Rows L2 Evl
mutual
inductive DpE (K : PySem.W.Frag) (H : Hp) : V → PyData → Prop
  | non : DpE K H .non .none
  | bl (b : Bool) : DpE K H (.bl b) (.bool b)
  | int (i : Int) : DpE K H (.int i) (.int i)
  | str (x : Str) : DpE K H (.str x) (.str x)
  | lst {a : Addr} {xs : List V} {ds : List PyData} : SqL K H a xs → DpEs K H xs ds → DpE K H (.ref a) (.list ds)
  | tup {a : Addr} {xs : List V} {ds : List PyData} : SqT K H a xs → DpEs K H xs ds → DpE K H (.ref a) (.tuple ds)
  | dic {a : Addr} : H a = some (.dK []) → DpE K H (.ref a) (.dict [])
inductive DpEs (K : PySem.W.Frag) (H : Hp) : List V → List PyData → Prop
  | nil : DpEs K H [] []
  | cons {v : V} {vs : List V} {d : PyData} {ds : List PyData} : DpE K H v d → DpEs K H vs ds → DpEs K H (v :: vs) (d :: ds)
end
mutual
theorem DatV.dpE {K : PySem.W.Frag} {B H : Hp} (e : Ex B H) : ∀ {d : Dat} {v : V}, DatV B d v → DpE K H v d.py
  | _, _, .non => .non
  | _, _, .bl b => .bl b
  | _, _, .int n => .int n
  | _, _, .str s => .str s
  | _, _, .lst h r => .lst (sq_of (e _ _ h)) (DatVs.dpE e r)
  | _, _, .tup h r => .tup (st_of (e _ _ h)) (DatVs.dpE e r)
  | _, _, .dic h => .dic (e _ _ h)
theorem DatVs.dpE {K : PySem.W.Frag} {B H : Hp} (e : Ex B H) : ∀ {d : List Dat} {v : List V}, DatVs B d v → DpEs K H v (pyAll d)
  | _, _, .nil => .nil
  | _, _, .cons h r => .cons (DatV.dpE e h) (DatVs.dpE e r)
end
section
variable {X : Cx} {pins : List (Addr × Obj)} {σ : L2.St} {H : Hp} {s : Shared}
structure Shw (prog : Program) (w : World) (h : Heap) (u : Value) (d : PyData) : Prop where
  ex : ∃ as, Reads h u d as ∧ ∃ bs, ReadAtMost h d.depth bs ∧ ReprK prog w bs h d.depth u d.shown
structure ShwAll (prog : Program) (w : World) (h : Heap) (us : List Value) (ds : List PyData) : Prop where
  ex : ∃ as, ReadsAll h us ds as ∧ ∃ bs, ReadAtMost h (PyData.depthAll ds) bs ∧ ReprAllK prog w bs h (PyData.depthAll ds) us (PyData.shownAll ds)
theorem dic_obj {a : Addr} (I : Inv X pins σ H s) (h : H a = some (.dK [])) : ∃ o es n, s.heap.get? a = some o ∧ o.cls = .type "dict" ∧ o.data = .dict es n ∧ es.toList = [] ∧ (a == sysModules) = false := by
  obtain ⟨_, ns, vs, kv, o, es, ep, ho, hx, hd, _, hp, _⟩ := (show ObjOk X.prog X.w H s.heap a (.dK []) from I.hok a _ h)
  cases kv
  refine ⟨o, es, ep, ho, hx.1, hd, ?_, ns⟩
  generalize hl : es.toList = l at hp
  cases hp
  rfl
mutual
theorem DpE.shw (I : Inv X pins σ H s) : ∀ (d : PyData) (v : V) (u : Value), DpE X.K H v d → RelV v u → d.showable = true → d.shown.length ≤ sizeLine → Shw X.prog X.w s.heap u d
  | .none, _, _, h, r, _, _ => by
    cases h
    cases r
    exact ⟨_, Reads.none, [], (fun _ h => nomatch h), by simp only [PyData.shown]; exact .of_is ReprIs.none _ _ _⟩
  | .bool b, _, _, h, r, _, _ => by
    cases h
    cases r
    exact ⟨_, Reads.bool b, [], (fun _ h => nomatch h), by simp only [PyData.shown]; exact .of_is (ReprIs.bool b) _ _ _⟩
  | .int i, _, _, h, r, hs, _ => by
    cases h
    obtain ⟨t, rfl⟩ := r
    exact ⟨_, Reads.int i t, [], (fun _ h => nomatch h), by simp only [PyData.shown]; exact .of_is (ReprIs.int t (by simpa [PyData.showable] using hs)) _ _ _⟩
  | .str x, _, _, h, r, _, hz => by
    cases h
    obtain ⟨t, rfl⟩ := r
    exact ⟨_, Reads.str x t, [], (fun _ h => nomatch h), by simp only [PyData.shown]; exact .of_is (ReprIs.str x t (by simpa only [PyData.shown] using hz)) _ _ _⟩
  | .list ds, _, _, h, r, hs, hz => by
    cases h with
    | @lst a xs _ hq ha =>
      cases r
      obtain ⟨its, rv, ⟨o, n, ho, hc, _, hd⟩, _⟩ := I.list hq
      have hz' : (listText (PyData.shownAll ds)).length ≤ sizeLine := by simpa only [PyData.shown] using hz
      obtain ⟨as, hr, bs, hb, hk⟩ := (DpEs.shw I ds _ its ha rv (by simpa [PyData.showable] using hs) (fun t ht => Nat.le_trans (listText_mem_le ht) hz')).ex
      have r : Reads s.heap (.ref a) (.list ds) _ := .list ho hc hd hr
      have hna : a ∉ bs := not_mem_of_deeper r (by simp only [PyData.depth]; omega) hb
      refine ⟨_, r, a :: bs, ReadAtMost.cons r (by simp only [PyData.depth]; omega) hb, ?_⟩
      simp only [PyData.depth, PyData.shown]
      cases its with
      | nil =>
        cases hr
        simp only [PyData.shownAll, listText_nil]
        exact ReprK.listEmpty ho hc hd
      | cons x l => exact ReprK.list ho hc hd hna (by simpa using hk.length_eq) (fun i y e => hk.item i y (by simpa using e))
  | .tuple ds, _, _, h, r, hs, hz => by
    cases h with
    | @tup a xs _ hq ha =>
      cases r
      obtain ⟨its, rv, ⟨o, ho, hc, n, hd⟩, _⟩ := I.tuple hq
      have hz' : (tupleText (PyData.shownAll ds)).length ≤ sizeLine := by simpa only [PyData.shown] using hz
      obtain ⟨as, hr, bs, hb, hk⟩ := (DpEs.shw I ds _ its ha rv (by simpa [PyData.showable] using hs) (fun t ht => Nat.le_trans (tupleText_mem_le ht) hz')).ex
      have r : Reads s.heap (.ref a) (.tuple ds) _ := .tuple ho hc hd hr
      have hna : a ∉ bs := not_mem_of_deeper r (by simp only [PyData.depth]; omega) hb
      refine ⟨_, r, a :: bs, ReadAtMost.cons r (by simp only [PyData.depth]; omega) hb, ?_⟩
      simp only [PyData.depth, PyData.shown]
      exact ReprK.tuple ho hc hd hna (by simpa using hk)
  | .dict kvs, _, _, h, r, hs, hz => by
    cases h with
    | @dic a hd0 =>
      cases r
      obtain ⟨o, es, n, ho, hc, hd, he, hsys⟩ := dic_obj I hd0
      have r : Reads s.heap (.ref a) (.dict []) (a :: [] ++ []) := Reads.dict ho hc hd (by rw [he]; exact .nil) (by rw [he]; exact .nil)
      refine ⟨_, r, [a], ReadAtMost.cons (n := (PyData.dict []).depth) r (Nat.le_refl _) (fun _ h => nomatch h), ?_⟩
      have k : ReprK X.prog X.w [a] s.heap (0 + 1) (.ref a) (dictText []) := ReprK.dict ho hc hd hsys (by simp) (by rw [he]; exact .nil)
      exact k
theorem DpEs.shw (I : Inv X pins σ H s) : ∀ (ds : List PyData) (vs : List V) (us : List Value), DpEs X.K H vs ds → Vals vs us → PyData.showableAll ds = true → (∀ t ∈ PyData.shownAll ds, t.length ≤ sizeLine) → ShwAll X.prog X.w s.heap us ds
  | [], _, _, h, r, _, _ => by
    cases h
    cases r
    exact ⟨_, ReadsAll.nil, [], (fun _ h => nomatch h), by simp only [PyData.shownAll]; exact .nil⟩
  | d :: ds, _, _, h, r, hs, hz => by
    cases h with
    | cons h1 h2 =>
      cases r with
      | cons r1 r2 =>
        have hs' : d.showable = true ∧ PyData.showableAll ds = true := by simpa [PyData.showableAll] using hs
        obtain ⟨a1, q1, b1, hb1, k1⟩ := (DpE.shw I d _ _ h1 r1 hs'.1 (hz _ (by simp only [PyData.shownAll]; exact List.mem_cons_self ..))).ex
        obtain ⟨a2, q2, b2, hb2, k2⟩ := (DpEs.shw I ds _ _ h2 r2 hs'.2 (fun t ht => hz t (by simp only [PyData.shownAll]; exact List.mem_cons_of_mem _ ht))).ex
        refine ⟨_, ReadsAll.cons q1 q2, b1 ++ b2, ?_, ?_⟩
        · intro b hm
          simp only [PyData.depthAll]
          rcases List.mem_append.mp hm with hm | hm
          · obtain ⟨d', as', r', hd'⟩ := hb1 b hm
            exact ⟨d', as', r', Nat.le_trans hd' (Nat.le_max_left _ _)⟩
          · obtain ⟨d', as', r', hd'⟩ := hb2 b hm
            exact ⟨d', as', r', Nat.le_trans hd' (Nat.le_max_right _ _)⟩
        · simp only [PyData.depthAll, PyData.shownAll]
          exact .cons ((k1.more fun b hb => List.mem_append_left _ hb).level_le (Nat.le_max_left _ _)) (k2.more_le (fun b hb => List.mem_append_right _ hb) (Nat.le_max_right _ _))
end
/-- repr(x) -/
def rReprE (K : PySem.W.Frag) : List V → Hp → VK → Prop := fun xs H Q => ∃ (v : V) (d : PyData), xs = [v] ∧ DpE K H v d ∧
  d.showable = true ∧ d.depth ≤ 60 ∧ d.shown.length ≤ sizeLine ∧ Q (.str d.shown) H
theorem call_reprE (ng : X.A.guards = some []) (hu : X.A.units + 64 < cLine) : CallR X (.builtin "repr") (rReprE X.K) := by
  intro pins s σ H xs us Q I r h
  obtain ⟨v, d, rfl, hd, hs, hdep, hsz, q⟩ := h
  obtain ⟨u, rfl, ru⟩ := vals1 r
  cases hd with
  | non => cases ru; exact PySem.P.repr_of_none ⟨.str _, H, I.tok _, ⟨_, rfl⟩, q⟩
  | bl b =>
    cases ru
    exact PySem.P.repr_of_bool ⟨.str _, H, I.tok _, ⟨_, rfl⟩, q⟩
  | int i =>
    obtain ⟨t, rfl⟩ := ru
    exact PySem.P.repr_of_int (of_decide_eq_true hs) ⟨.str _, H, I.tok _, ⟨_, rfl⟩, q⟩
  | str z =>
    obtain ⟨t, rfl⟩ := ru
    exact PySem.P.repr_of_str ⟨.str _, H, I.tok _, ⟨_, rfl⟩, q⟩ hsz
  | @lst a xs ds hq ha =>
    cases ru
    obtain ⟨its, rv, ⟨o, n, ho, hc, _, hd⟩, _⟩ := I.list hq
    have hz' : (listText (PyData.shownAll ds)).length ≤ sizeLine := by simpa only [PyData.shown] using hsz
    obtain ⟨as, hr, bs, hb, hk⟩ := (DpEs.shw I ds _ its ha rv (by simpa [PyData.showable] using hs) (fun t ht => Nat.le_trans (listText_mem_le ht) hz')).ex
    have r : Reads s.heap (.ref a) (.list ds) _ := .list ho hc hd hr
    have hna : a ∉ bs := not_mem_of_deeper r (by simp only [PyData.depth]; omega) hb
    refine call_repr_slot (by omega) (show s.TypeIs (.ref a) "list" from ⟨o, ho, hc⟩) F.slot_list_repr.toG ?_
    simp only [PyData.depth] at hdep
    simp only [PyData.shown] at q
    cases its with
    | nil =>
      cases hr
      simp only [PyData.shownAll, listText_nil] at q
      exact call_list_repr_empty ⟨o, ho, hc⟩ ho hd ⟨_, _, rfl, .str _, H, I.tok _, ⟨_, rfl⟩, q⟩
    | cons x l =>
      exact call_list_reprK ho hc hd hna (by simpa using hk.length_eq) (fun i y e => hk.item i y (by simpa using e)) ng (fun b _ => Clear.nil b) (by show X.A.units + 1 + _ < cLine; omega) (fun _ _ e => e)
        (fun h' u tk hk => ⟨_, _, rfl, .str _, H, I.kept (t' := tk) hk, ⟨u, rfl⟩, q⟩) hz'
  | @tup a xs ds hq ha =>
    cases ru
    obtain ⟨its, rv, ⟨o, ho, hc, n, hd⟩, _⟩ := I.tuple hq
    have hz' : (tupleText (PyData.shownAll ds)).length ≤ sizeLine := by simpa only [PyData.shown] using hsz
    obtain ⟨as, hr, bs, hb, hk⟩ := (DpEs.shw I ds _ its ha rv (by simpa [PyData.showable] using hs) (fun t ht => Nat.le_trans (tupleText_mem_le ht) hz')).ex
    have r : Reads s.heap (.ref a) (.tuple ds) _ := .tuple ho hc hd hr
    have hna : a ∉ bs := not_mem_of_deeper r (by simp only [PyData.depth]; omega) hb
    refine call_repr_slot (by omega) (show s.TypeIs (.ref a) "tuple" from ⟨o, ho, hc⟩) F.slot_tuple_repr ?_
    simp only [PyData.depth] at hdep
    simp only [PyData.shown] at q
    exact call_tuple_reprK ho hc hd hna (by simpa using hk) ng (fun b _ => Clear.nil b) (by show X.A.units + 1 + _ < cLine; omega) (fun _ _ e => e)
        (fun h' u tk hk => ⟨_, _, rfl, .str _, H, I.kept (t' := tk) hk, ⟨u, rfl⟩, q⟩) hz'
  | @dic a hd0 =>
    cases ru
    obtain ⟨o, es, n, ho, hc, hd, he, hsys⟩ := dic_obj I hd0
    refine call_repr_slot (by omega) (show s.TypeIs (.ref a) "dict" from ⟨o, ho, hc⟩) F.slot_dict_repr ?_
    have k : ReprEntriesK X.prog X.w [] s.heap 0 es.toList [] := by rw [he]; exact .nil
    exact call_dict_reprK ho hc hd hsys (by simp) k ng (fun b _ => Clear.nil b) (by show X.A.units + 1 + _ < cLine; omega) (fun _ _ e => e)
        (fun h' u tk hk => ⟨_, _, rfl, .str _, H, I.kept (t' := tk) hk, ⟨u, rfl⟩, q⟩) hsz
end
section
variable {K : PySem.W.Frag} {G : Option Addr} {c : Nat} {ta : TE} {Γ : Ctx}
theorem ty_reprE {d : Dat} {L W : Nat} (h : Ty G c ta Γ (· = d)) (hdep : d.py.depth ≤ 60) (r : Rw L W d) (h0 : 8 ≤ L) (hW : (L + 2) * W + L ≤ 16000000) : Ty G (c + 0) (tCB (rReprE K) (tCons ta tNil)) Γ (· = d.py.shown) :=
  ty_cb (ta_cons h ta_nil) fun vs B al z B' H e s Q q => by
    obtain ⟨v, rfl, hv⟩ := al.one
    refine ⟨v, d.py, rfl, DatV.dpE (e.trans s.ex) hv, r.show_, hdep, ?_, q _ _ z B' H rfl (.refl s) rfl⟩
    have h1 := PyData.shown_le L h0 d.py r.short
    have h2 : (L + 2) * d.py.weight ≤ (L + 2) * W := Nat.mul_le_mul (Nat.le_refl _) r.wt
    rw [sizeLine_eq]
    omega
theorem strs_cast {xs : List Str} {v : V} {B : Hp} (h : Py.is xs v B) : Py.is (Dat.lst (xs.map Dat.str)) v B := by
  obtain ⟨p, vs, rfl, h1, h2⟩ := h
  refine .lst h1 ?_
  clear h1
  induction h2 with
  | nil => exact .nil
  | @cons x v xs vs h _ ih =>
    cases (show v = .str x from h)
    exact .cons (.str x) ih
theorem strs_shp : ∀ {xs : List Str}, (∀ x ∈ xs, (PyData.str x).canLay0 = true) → PyData.canLayAll0 (pyAll (xs.map Dat.str)) = true ∧ PyData.hasDictAll (pyAll (xs.map Dat.str)) = false ∧ PyData.depthAll (pyAll (xs.map Dat.str)) ≤ 0
  | [], _ => ⟨rfl, rfl, Nat.le_refl _⟩
  | x :: xs, h => by
    obtain ⟨a, b, c⟩ := strs_shp (xs := xs) fun y hy => h y (List.mem_cons_of_mem _ hy)
    refine ⟨?_, ?_, ?_⟩
    · show ((PyData.str x).canLay0 && PyData.canLayAll0 (pyAll (xs.map Dat.str))) = true
      rw [h x List.mem_cons_self, a]; rfl
    · show (false || PyData.hasDictAll (pyAll (xs.map Dat.str))) = false
      rw [b]; rfl
    · exact Nat.max_le.mpr ⟨Nat.zero_le _, c⟩
theorem strs_eqv : ∀ xs ys : List Str, PyData.eqvAll (pyAll (xs.map Dat.str)) (pyAll (ys.map Dat.str)) = decide (xs = ys)
  | [], [] => rfl
  | [], _ :: _ => rfl
  | _ :: _, [] => rfl
  | x :: xs, y :: ys => by
    show ((x == y) && PyData.eqvAll (pyAll (xs.map Dat.str)) (pyAll (ys.map Dat.str))) = _
    rw [dec_beq, strs_eqv xs ys, ← Bool.decide_and]
    exact decide_eq_decide.mpr ⟨fun ⟨a, b⟩ => by rw [a, b], fun h => List.cons.inj h⟩
theorem strs_ok {xs : List Str} (h : ∀ x ∈ xs, (PyData.str x).canLay0 = true) : Shp (Dat.lst (xs.map Dat.str)) := by
  obtain ⟨a, b, c⟩ := strs_shp h
  exact ⟨a, b, show PyData.depthAll (pyAll (xs.map Dat.str)) + 1 ≤ 60 by omega⟩
theorem ty_eqSS {c1 c2 : Nat} {tb : TE} {xs ys : List Str} (h : Ty G c1 ta Γ (· = xs)) (h2 : Ty G c2 tb Γ (· = ys)) (k : ∀ x ∈ xs, (PyData.str x).canLay0 = true) (k2 : ∀ x ∈ ys, (PyData.str x).canLay0 = true) : Ty G (c1 + c2) (tOp (rEqD K) ta tb) Γ (· = decide (xs = ys)) :=
  (ty_eqS' (h.cast fun v B q => strs_cast q) (h2.cast fun v B q => strs_cast q) (strs_ok k) (strs_ok k2)).to (strs_eqv xs ys)
/-- a list of data holds what its values are -/
theorem dus {B : Hp} {ds : List Dat} {v : V} (h : Py.is ds v B) : ∃ xs : List DU, xs.map (·.d) = ds ∧ Py.is xs v B ∧ ∀ x ∈ xs, Py.is x.d x.u B := by
  obtain ⟨p, vs, rfl, h1, h2⟩ := h
  have key : ∀ {ds : List Dat} {vs : List V}, Each B ds vs → ∃ xs : List DU, xs.map (·.d) = ds ∧ Each B xs vs ∧ ∀ x ∈ xs, Py.is x.d x.u B := by
    intro ds vs h
    induction h with
    | nil => exact ⟨[], rfl, .nil, fun x h => nomatch h⟩
    | @cons d v ds vs h _ ih =>
      obtain ⟨xs, e, r, w⟩ := ih
      refine ⟨⟨d, v⟩ :: xs, by rw [List.map_cons, e], .cons ⟨rfl, h⟩ r, fun x hx => ?_⟩
      rcases List.mem_cons.mp hx with e | hx
      · rw [e]; exact h
      · exact w x hx
  obtain ⟨xs, e, r, w⟩ := key h2
  exact ⟨xs, e, ⟨p, vs, rfl, h1, r⟩, w⟩
end
end AP
set_option maxHeartbeats 4000000
namespace K04
open PySem PySem.Spec PyProof.Rows L2 AP Evl
instance : Inhabited DU := ⟨⟨.non, .non⟩⟩
instance : Inhabited FnV := ⟨⟨0⟩⟩
def whoE (cl : Str → Addr) (dr : Int) : List DU → Option (Addr × V)
  | [a] => nE cl a
  | [a, _] => wE cl a
  | [a, b, c] => if dr = 0 ∨ dr = 1 then thenE (wE cl a) (pE cl a.d.toI b) else if dr = 2 then thenE (wE cl a) (thenE (kE cl b) (nE cl c)) else thenE (wE cl a) (thenE (kE cl b) (pE cl a.d.toI c))
  | [a, b, c, e] => thenE (wE cl a) (thenE (pE cl a.d.toI b) (thenE (vE cl a.d.toI b.d.lenD c) (vE cl a.d.toI b.d.lenD e)))
  | _ => none
def WhoP (cl : Str → Addr) (dr : Int) (xs : List DU) : Prop := (whoE cl dr xs).isSome = true ∧ (∀ x ∈ xs, x.d.small) ∧ 0 ≤ dr ∧ dr < 4
theorem len1 {xs : List DU} (h : decide (((xs.length : Nat) : Int) = 1) = true) : ∃ a, xs = [a] := by
  have h := of_decide_eq_true h
  match xs, h with
  | [a], _ => exact ⟨a, rfl⟩
  | [], h => simp at h
  | _ :: _ :: _, h => simp at h; omega
theorem len2 {xs : List DU} (h : decide (((xs.length : Nat) : Int) = 2) = true) : ∃ a b, xs = [a, b] := by
  have h := of_decide_eq_true h
  match xs, h with
  | [a, b], _ => exact ⟨a, b, rfl⟩
  | [], h => simp at h
  | [_], h => simp at h
  | _ :: _ :: _ :: _, h => simp at h; omega
theorem len3 {xs : List DU} (h : decide (((xs.length : Nat) : Int) = 3) = true) : ∃ a b c, xs = [a, b, c] := by
  have h := of_decide_eq_true h
  match xs, h with
  | [a, b, c], _ => exact ⟨a, b, c, rfl⟩
  | [], h => simp at h
  | [_], h => simp at h
  | [_, _], h => simp at h
  | _ :: _ :: _ :: _ :: _, h => simp at h; omega
theorem len4 {cl : Str → Addr} {dr : Int} {xs : List DU} (h1 : decide (((xs.length : Nat) : Int) = 1) = false) (h2 : decide (((xs.length : Nat) : Int) = 2) = false) (h3 : decide (((xs.length : Nat) : Int) = 3) = false) (h : (whoE cl dr xs).isSome = true) : ∃ a b c e, xs = [a, b, c, e] := by
  match xs, h1, h2, h3, h with
  | [a, b, c, e], _, _, _, _ => exact ⟨a, b, c, e, rfl⟩
  | [], _, _, _, h => cases h
  | [_], h, _, _, _ => simp at h
  | [_, _], _, h, _, _ => simp at h
  | [_, _, _], _, _, h, _ => simp at h
  | _ :: _ :: _ :: _ :: _ :: _, _, _, _, h => cases h
theorem four {d : Int} (h : 0 ≤ d) (h2 : d < 4) : d = 0 ∨ d = 1 ∨ d = 2 ∨ d = 3 := by omega
theorem ite_eq {α : Type} {c : Prop} [Decidable c] {a b : α} : (if c then a = b else a = b) → a = b := fun h => by split at h <;> exact h
section
variable {G : Option Addr} {c0 c1 c2 c3 c4 c5 c6 c7 : Nat} {t0 t1 t2 t3 t4 t5 t6 t7 : TE} {Γ : AP.Ctx} {g : Addr}
def cCalled (cl : Str → Addr) : AP.ConX (Int × (List DU)) Bool := { args := fun i => [Py.is i.1, Py.is i.2], pre := fun i G => WhoP cl i.1 i.2, c := fun _ => 0, post := fun i r => False, err := fun i => whoE cl i.1 i.2 }
end
section
variable {P : Program} {w : World} {K : PySem.W.Frag} {mg : Str → Option Value} {base : Heap}
abbrev s_law_called : Stmt := topS 46
theorem sc_law_called : FnScope ["_law_door", "_law_args"] ["_law_door", "_law_args"] (defScope s_law_called) := ⟨rfl, rfl, rfl, by decide +kernel, rfl, by decide +kernel, by decide +kernel⟩
theorem okX_law_called {f : Addr} {fd : FuncData} {cl : Str → Addr} (F : Df K "_law_called" "_law_called" s_law_called [] f fd) (T : TN mg)  (FXtwos_in : FoX P w K mg base "twos_in" 5 ["number"] (cBadTwosIn cl).spX) (FXis_word : FoX P w K mg base "is_word" 7 ["width", "value"] (cBadW cl).spX) (FXis_places : FoX P w K mg base "is_places" 7 ["width", "value"] (cBadW cl).spX) (FXis_words : FoX P w K mg base "is_words" 7 ["width", "places", "value"] (cBadWP cl).spX) (FXis_known : FoX P w K mg base "is_known" 7 ["width", "places", "value"] (cBadWP cl).spX) (FXword_at : FoX P w K mg base "word_at" 7 ["width", "coefficients", "number"] (cBadWordAt cl).spX) (FXwords_at : FoX P w K mg base "words_at" 7 ["width", "coefficients", "places"] (cBadWordsAt cl).spX) (FXparting_places : FoX P w K mg base "parting_places" 7 ["width", "places", "words", "others"] (cBadParting cl).spX) :
    FnOk P w K mg base (L2.CX P w) 8 f fd ["_law_door", "_law_args"] (cCalled cl).spX := by
  obtain ⟨f_is_words, m_is_words, H_is_words⟩ := FXis_words.held
  obtain ⟨f_is_known, m_is_known, H_is_known⟩ := FXis_known.held
  obtain ⟨f_word_at, m_word_at, H_word_at⟩ := FXword_at.held
  obtain ⟨f_words_at, m_words_at, H_words_at⟩ := FXwords_at.held
  have hA : ∀ f sp, (fun f sp => (f = f_is_words ∧ sp = (cBadWP cl).spX) ∨ (f = f_is_known ∧ sp = (cBadWP cl).spX) ∨ (f = f_word_at ∧ sp = (cBadWordAt cl).spX) ∨ (f = f_words_at ∧ sp = (cBadWordsAt cl).spX)) f sp → HeldX P w K mg base 7 f sp := by
    intro f sp h
    rcases h with ⟨rfl, rfl⟩ | ⟨rfl, rfl⟩ | ⟨rfl, rfl⟩ | ⟨rfl, rfl⟩
    · exact H_is_words
    · exact H_is_known
    · exact H_word_at
    · exact H_words_at
  refine con_goX F sc_law_called (cCalled cl) (fun _ => rfl) fun cdv A outer s H E i G z0 B0 hr hp at0 hz tk => ⟨_, (pss_cons (ps_if (pt_cmpR op_eq (pe_callB (r := rLenS K) call_len_seq (by rfl) T.b_len (by decide +kernel) (pa_cons (pv 1) pa_nil)) pe_int (nomark _)) (pss_one (ps_ret (pe_foX FXtwos_in (hr.mono (by decide)) tk (by rfl) (pa_cons (pe_ix (r := rIxL K) ix_list (pv 1) pe_int (fun _ _ => rfl)) pa_nil)))) pss_nil)
     (pss_cons (ps_if (pt_cmpR op_eq (pe_callB (r := rLenS K) call_len_seq (by rfl) T.b_len (by decide +kernel) (pa_cons (pv 1) pa_nil)) pe_int (nomark _)) (pss_one (ps_ret (pe_ifExp (pt_cmpR op_eq (pv 0) pe_int (nomark _)) (pe_foX FXis_word (hr.mono (by decide)) tk (by rfl) (pa_cons (pe_ix (r := rIxL K) ix_list (pv 1) pe_int (fun _ _ => rfl)) (pa_cons (pe_ix (r := rIxL K) ix_list (pv 1) pe_int (fun _ _ => rfl)) pa_nil))) (pe_foX FXis_places (hr.mono (by decide)) tk (by rfl) (pa_cons (pe_ix (r := rIxL K) ix_list (pv 1) pe_int (fun _ _ => rfl)) (pa_cons (pe_ix (r := rIxL K) ix_list (pv 1) pe_int (fun _ _ => rfl)) pa_nil)))))) pss_nil)
     (pss_cons (ps_if (pt_cmpR op_eq (pe_callB (r := rLenS K) call_len_seq (by rfl) T.b_len (by decide +kernel) (pa_cons (pv 1) pa_nil)) pe_int (nomark _)) (pss_one (ps_ret (pe_callFE (S := (fun f sp => (f = f_is_words ∧ sp = (cBadWP cl).spX) ∨ (f = f_is_known ∧ sp = (cBadWP cl).spX) ∨ (f = f_word_at ∧ sp = (cBadWordAt cl).spX) ∨ (f = f_words_at ∧ sp = (cBadWordsAt cl).spX))) hA (hr.mono (by decide)) tk (pe_ix (r := rIxL K) ix_list (pe_lst (pa_cons (pe_glob (v := .ref f_is_words) (by rfl) m_is_words rfl) (pa_cons (pe_glob (v := .ref f_is_known) (by rfl) m_is_known rfl) (pa_cons (pe_glob (v := .ref f_word_at) (by rfl) m_word_at rfl) (pa_cons (pe_glob (v := .ref f_words_at) (by rfl) m_words_at rfl) pa_nil))))) (pv 0) (fun _ _ => rfl)) (pa_cons (pe_ix (r := rIxL K) ix_list (pv 1) pe_int (fun _ _ => rfl)) (pa_cons (pe_ix (r := rIxL K) ix_list (pv 1) pe_int (fun _ _ => rfl)) (pa_cons (pe_ix (r := rIxL K) ix_list (pv 1) pe_int (fun _ _ => rfl)) pa_nil)))))) pss_nil)
     (pss_one (ps_ret (pe_foX FXparting_places (hr.mono (by decide)) tk (by rfl) (pa_cons (pe_ix (r := rIxL K) ix_list (pv 1) pe_int (fun _ _ => rfl)) (pa_cons (pe_ix (r := rIxL K) ix_list (pv 1) pe_int (fun _ _ => rfl)) (pa_cons (pe_ix (r := rIxL K) ix_list (pv 1) pe_int (fun _ _ => rfl)) (pa_cons (pe_ix (r := rIxL K) ix_list (pv 1) pe_int (fun _ _ => rfl)) pa_nil)))))))))), fun σ Q en q qE => ?_⟩
  obtain ⟨dr, xs⟩ := i
  have hp : WhoP cl dr xs := hp
  have qE : ∀ e, (whoE cl dr xs) = some e → ∀ d z' B' H', Nx G 0 z0 B0 H z' B' H' → B' d = some (.xd [("value", e.2)]) → E (.ref e.1) (some d) H' := qE
  have q : (whoE cl dr xs) = none → ∀ y w z' B' H', (fun r => False) y → Nx G 0 z0 B0 H z' B' H' → Py.is y w B' → Q w H' := q
  have hz1 : z0 + (0 : Nat) ≤ 2 ^ 50 := hz
  have n := Nx.refl at0
  obtain ⟨hw, hs, d0, d4⟩ := hp
  refine q_iteS at0 n en (tt_test (ty_eqI (ty_len (ty_var (x := xs) rfl)) ty_i)) (by omega) (fun hb z' B' H' s n en => ?_) (fun hb z' B' H' s n en => ?_)
  · obtain ⟨a, rfl⟩ := len1 hb
    refine q_retX at0 n en (x_twos_in (cl := cl) ((ty_ixD default (ty_var (x := [a]) rfl) ty_i ⟨by decide, by simp⟩).to (y := ([a]).getD 0 default) rfl) hw) (by omega) (fun e he d z' B' H' nE hd => qE e he d z' B' H' (nE.le (by show _ ≤ 0; omega)) hd) (fun x v z' B' H' okx n hv => ?_)
    exact okx.2.elim
  · refine q_iteS at0 n en (tt_test (ty_eqI (ty_len (ty_var (x := xs) rfl)) ty_i)) (by omega) (fun hb2 z' B' H' s n en => ?_) (fun hb2 z' B' H' s n en => ?_)
    · obtain ⟨a, b, rfl⟩ := len2 hb2
      refine q_retX at0 n en (ty_ifX (tt_test (ty_eqI (ty_var (x := dr) rfl) ty_i)) (fun hb => (x_is_word (cl := cl) ((ty_ixD default (ty_var (x := [a, b]) rfl) ty_i ⟨by decide, by simp⟩).to (y := ([a, b]).getD 0 default) rfl) ((ty_ixD default (ty_var (x := [a, b]) rfl) ty_i ⟨by decide, by simp⟩).to (y := ([a, b]).getD 1 default) rfl) hw)) (fun hb => (x_is_places (cl := cl) ((ty_ixD default (ty_var (x := [a, b]) rfl) ty_i ⟨by decide, by simp⟩).to (y := ([a, b]).getD 0 default) rfl) ((ty_ixD default (ty_var (x := [a, b]) rfl) ty_i ⟨by decide, by simp⟩).to (y := ([a, b]).getD 1 default) rfl) hw))) (by omega) (fun e he d z' B' H' nE hd => qE e (ite_eq he) d z' B' H' (nE.le (by show _ ≤ 0; omega)) hd) (fun x v z' B' H' okx n hv => ?_)
      split at okx <;> exact okx.2.elim
    · refine q_iteS at0 n en (tt_test (ty_eqI (ty_len (ty_var (x := xs) rfl)) ty_i)) (by omega) (fun hb3 z' B' H' s n en => ?_) (fun hb3 z' B' H' s n en => ?_)
      · obtain ⟨a, b, c, rfl⟩ := len3 hb3
        rcases four d0 d4 with rfl | rfl | rfl | rfl
        · refine q_retX (c := 0) at0 n en (ty_callFE (C := cBadWP cl) (a, b, c) ((ty_ixD default (ty_lit (tl_cons ty_fn (tl_cons ty_fn (tl_cons ty_fn (tl_cons ty_fn tl_nil)))) (by simp)) (ty_var (x := (0 : Int)) rfl) ⟨by decide, by simp⟩).to (y := (FnV.mk f_is_words)) rfl) (.inl ⟨rfl, rfl⟩) (ta_cons ((ty_ixD default (ty_var (x := [a, b, c]) rfl) ty_i ⟨by decide, by simp⟩).to (y := ([a, b, c]).getD 0 default) rfl) (ta_cons ((ty_ixD default (ty_var (x := [a, b, c]) rfl) ty_i ⟨by decide, by simp⟩).to (y := ([a, b, c]).getD 1 default) rfl) (ta_cons ((ty_ixD default (ty_var (x := [a, b, c]) rfl) ty_i ⟨by decide, by simp⟩).to (y := ([a, b, c]).getD 2 default) rfl) ta_nil))) (⟨hw, hs b (by simp)⟩)) (by omega) (fun e he d z' B' H' nE hd => qE e (he) d z' B' H' (nE.le (by show _ ≤ 0; omega)) hd) (fun x v z' B' H' okx n hv => okx.2.elim)
        · refine q_retX (c := 0) at0 n en (ty_callFE (C := cBadWP cl) (a, b, c) ((ty_ixD default (ty_lit (tl_cons ty_fn (tl_cons ty_fn (tl_cons ty_fn (tl_cons ty_fn tl_nil)))) (by simp)) (ty_var (x := (1 : Int)) rfl) ⟨by decide, by simp⟩).to (y := (FnV.mk f_is_known)) rfl) (.inr (.inl ⟨rfl, rfl⟩)) (ta_cons ((ty_ixD default (ty_var (x := [a, b, c]) rfl) ty_i ⟨by decide, by simp⟩).to (y := ([a, b, c]).getD 0 default) rfl) (ta_cons ((ty_ixD default (ty_var (x := [a, b, c]) rfl) ty_i ⟨by decide, by simp⟩).to (y := ([a, b, c]).getD 1 default) rfl) (ta_cons ((ty_ixD default (ty_var (x := [a, b, c]) rfl) ty_i ⟨by decide, by simp⟩).to (y := ([a, b, c]).getD 2 default) rfl) ta_nil))) (⟨hw, hs b (by simp)⟩)) (by omega) (fun e he d z' B' H' nE hd => qE e (he) d z' B' H' (nE.le (by show _ ≤ 0; omega)) hd) (fun x v z' B' H' okx n hv => okx.2.elim)
        · refine q_retX (c := 0) at0 n en (ty_callFE (C := cBadWordAt cl) (a, b, c) ((ty_ixD default (ty_lit (tl_cons ty_fn (tl_cons ty_fn (tl_cons ty_fn (tl_cons ty_fn tl_nil)))) (by simp)) (ty_var (x := (2 : Int)) rfl) ⟨by decide, by simp⟩).to (y := (FnV.mk f_word_at)) rfl) (.inr (.inr (.inl ⟨rfl, rfl⟩))) (ta_cons ((ty_ixD default (ty_var (x := [a, b, c]) rfl) ty_i ⟨by decide, by simp⟩).to (y := ([a, b, c]).getD 0 default) rfl) (ta_cons ((ty_ixD default (ty_var (x := [a, b, c]) rfl) ty_i ⟨by decide, by simp⟩).to (y := ([a, b, c]).getD 1 default) rfl) (ta_cons ((ty_ixD default (ty_var (x := [a, b, c]) rfl) ty_i ⟨by decide, by simp⟩).to (y := ([a, b, c]).getD 2 default) rfl) ta_nil))) (⟨hw, hs b (by simp)⟩)) (by omega) (fun e he d z' B' H' nE hd => qE e (he) d z' B' H' (nE.le (by show _ ≤ 0; omega)) hd) (fun x v z' B' H' okx n hv => okx.2.elim)
        · refine q_retX (c := 0) at0 n en (ty_callFE (C := cBadWordsAt cl) (a, b, c) ((ty_ixD default (ty_lit (tl_cons ty_fn (tl_cons ty_fn (tl_cons ty_fn (tl_cons ty_fn tl_nil)))) (by simp)) (ty_var (x := (3 : Int)) rfl) ⟨by decide, by simp⟩).to (y := (FnV.mk f_words_at)) rfl) (.inr (.inr (.inr ⟨rfl, rfl⟩))) (ta_cons ((ty_ixD default (ty_var (x := [a, b, c]) rfl) ty_i ⟨by decide, by simp⟩).to (y := ([a, b, c]).getD 0 default) rfl) (ta_cons ((ty_ixD default (ty_var (x := [a, b, c]) rfl) ty_i ⟨by decide, by simp⟩).to (y := ([a, b, c]).getD 1 default) rfl) (ta_cons ((ty_ixD default (ty_var (x := [a, b, c]) rfl) ty_i ⟨by decide, by simp⟩).to (y := ([a, b, c]).getD 2 default) rfl) ta_nil))) (⟨hw, hs b (by simp), hs c (by simp)⟩)) (by omega) (fun e he d z' B' H' nE hd => qE e (he) d z' B' H' (nE.le (by show _ ≤ 0; omega)) hd) (fun x v z' B' H' okx n hv => okx.2.elim)
      · obtain ⟨a, b, c, x, rfl⟩ := len4 hb hb2 hb3 hw
        refine q_retX at0 n en (x_parting_places (cl := cl) ((ty_ixD default (ty_var (x := [a, b, c, x]) rfl) ty_i ⟨by decide, by simp⟩).to (y := ([a, b, c, x]).getD 0 default) rfl) ((ty_ixD default (ty_var (x := [a, b, c, x]) rfl) ty_i ⟨by decide, by simp⟩).to (y := ([a, b, c, x]).getD 1 default) rfl) ((ty_ixD default (ty_var (x := [a, b, c, x]) rfl) ty_i ⟨by decide, by simp⟩).to (y := ([a, b, c, x]).getD 2 default) rfl) ((ty_ixD default (ty_var (x := [a, b, c, x]) rfl) ty_i ⟨by decide, by simp⟩).to (y := ([a, b, c, x]).getD 3 default) rfl) ⟨hw, hs b (by simp), hs c (by simp), hs x (by simp)⟩) (by omega) (fun e he d z' B' H' nE hd => qE e he d z' B' H' (nE.le (by show _ ≤ 0; omega)) hd) (fun x v z' B' H' okx n hv => ?_)
        exact okx.2.elim
end
end K04
set_option maxHeartbeats 4000000
namespace K04
open PySem PySem.Spec PyProof.Rows L2 AP Evl
abbrev five : List Str := ["InvalidItems", "InvalidNumber", "InvalidPlaces", "InvalidWidth", "InvalidWords"]
def dueD (right : Bool) (nm : Str) (x : Dat) : Option (Str × Dat) := if right = true then none else some (nm, x)
def thenD (a b : Option (Str × Dat)) : Option (Str × Dat) := match a with
  | some e => some e
  | none => b
def wD (w : Dat) := dueD (w.within 1 64) "InvalidWidth" w
def pD (w : Int) (p : Dat) := dueD (placesB w p) "InvalidPlaces" p
def nD (x : Dat) := dueD x.whole "InvalidNumber" x
def kD (x : Dat) := dueD (wholesB x) "InvalidItems" x
def vD (w : Int) (n : Nat) (x : Dat) := dueD (wordsAtB w n x) "InvalidWords" x
/-- who is at fault first -/
def whoD (dr : Int) : List Dat → Option (Str × Dat)
  | [a] => nD a
  | [a, _] => wD a
  | [a, b, c] => if dr = 0 ∨ dr = 1 then thenD (wD a) (pD a.toI b) else if dr = 2 then thenD (wD a) (thenD (kD b) (nD c)) else thenD (wD a) (thenD (kD b) (pD a.toI c))
  | [a, b, c, e] => thenD (wD a) (thenD (pD a.toI b) (thenD (vD a.toI b.lenD c) (vD a.toI b.lenD e)))
  | _ => none
def Alike (cl : Str → Addr) (xs : List DU) (E : Option (Addr × V)) (D : Option (Str × Dat)) : Prop :=
  (E = none ∧ D = none) ∨ ∃ nm, ∃ x ∈ xs, nm ∈ five ∧ D = some (nm, x.d) ∧ E = some (cl nm, x.u)
section
variable {cl : Str → Addr} {xs : List DU} {E E2 : Option (Addr × V)} {D D2 : Option (Str × Dat)}
theorem like_due {b : Bool} {nm : Str} {x : DU} (hx : x ∈ xs) (hn : nm ∈ five) : Alike cl xs (due cl b nm x) (dueD b nm x.d) := by
  cases b with
  | true => exact .inl ⟨rfl, rfl⟩
  | false => exact .inr ⟨nm, x, hx, hn, rfl, rfl⟩
theorem like_then (h : Alike cl xs E D) (h2 : Alike cl xs E2 D2) : Alike cl xs (thenE E E2) (thenD D D2) := by
  rcases h with ⟨rfl, rfl⟩ | ⟨nm, x, hx, hn, rfl, rfl⟩
  · exact h2
  · exact .inr ⟨nm, x, hx, hn, rfl, rfl⟩
theorem who_like (dr : Int) : ∀ xs : List DU, Alike cl xs (whoE cl dr xs) (whoD dr (xs.map (·.d)))
  | [] => .inl ⟨rfl, rfl⟩
  | [a] => like_due (by simp) (by decide)
  | [a, b] => like_due (by simp) (by decide)
  | [a, b, c] => by
    show Alike cl [a, b, c] (if dr = 0 ∨ dr = 1 then _ else if dr = 2 then _ else _) (if dr = 0 ∨ dr = 1 then _ else if dr = 2 then _ else _)
    split
    · exact like_then (like_due (by simp) (by decide)) (like_due (by simp) (by decide))
    · split
      · exact like_then (like_due (by simp) (by decide)) (like_then (like_due (by simp) (by decide)) (like_due (by simp) (by decide)))
      · exact like_then (like_due (by simp) (by decide)) (like_then (like_due (by simp) (by decide)) (like_due (by simp) (by decide)))
  | [a, b, c, e] => like_then (like_due (by simp) (by decide)) (like_then (like_due (by simp) (by decide)) (like_then (like_due (by simp) (by decide)) (like_due (by simp) (by decide))))
  | _ :: _ :: _ :: _ :: _ :: _ => .inl ⟨rfl, rfl⟩
end
def wordK : Str → Str
  | nm => if nm = "InvalidItems" then "items" else if nm = "InvalidNumber" then "number" else if nm = "InvalidPlaces" then "places" else if nm = "InvalidWidth" then "width" else "words"
structure RefOk (dr : Int) (ds : List Dat) (nw : Str) (fd : Dat) : Prop where
  who : ∃ nm, whoD dr ds = some (nm, fd) ∧ wordK nm = nw
  small : ∀ d ∈ ds, d.small
  d0 : 0 ≤ dr
  d4 : dr < 4
  rw_ : Rw 200 20000 (.lst ds)
  dep : (Dat.lst ds).py.depth ≤ 60
theorem who_five {dr : Int} {ds : List Dat} {nm : Str} {fd : Dat} (h : whoD dr ds = some (nm, fd)) : nm ∈ five ∧ fd ∈ ds := by
  have k := who_like (cl := fun _ => 0) dr (ds.map fun d => ⟨d, .non⟩)
  rw [List.map_map, show ((fun x : DU => x.d) ∘ fun d : Dat => (⟨d, .non⟩ : DU)) = id from rfl, List.map_id, h] at k
  rcases k with ⟨_, k⟩ | ⟨m, x, hx, hm, k, _⟩
  · cases k
  · cases k
    obtain ⟨d, hd, rfl⟩ := List.mem_map.mp hx
    exact ⟨hm, hd⟩
theorem rw_item {L W : Nat} : ∀ {ds : List Dat} {d : Dat}, Rw L W (.lst ds) → (Dat.lst ds).py.depth ≤ 60 → d ∈ ds → Rw L W d ∧ d.py.depth ≤ 60
  | e :: ds, d, r, hd, h => by
    have s := r.show_
    have sh := r.short
    have wt := r.wt
    have s : (e.py.showable && PyData.showableAll (pyAll ds)) = true := s
    have sh : (e.py.leavesShort L && PyData.leavesShortAll L (pyAll ds)) = true := sh
    have wt : e.py.weight + 1 + PyData.weightAll (pyAll ds) ≤ W := wt
    have hd : max e.py.depth (PyData.depthAll (pyAll ds)) + 1 ≤ 60 := hd
    rw [Bool.and_eq_true] at s sh
    rcases List.mem_cons.mp h with q | h
    · rw [q]
      exact ⟨⟨s.1, sh.1, by omega⟩, by omega⟩
    · refine rw_item (ds := ds) ⟨s.2, sh.2, ?_⟩ ?_ h
      · show PyData.weightAll (pyAll ds) ≤ W
        omega
      · show PyData.depthAll (pyAll ds) + 1 ≤ 60
        omega
def wordsK (ws : List Str) (bs : List Bool) : List Str := ((ws.zip bs).map fun p => (List.replicate (if p.2 = true then (1 : Int) else 0).toNat [p.1]).flatten).flatten
theorem words_step {ws : List Str} {bs : List Bool} {k : Nat} {a : Str} {b : Bool} (ha : ws[k]? = some a) (hb : bs[k]? = some b) : wordsK (ws.take (k + 1)) (bs.take (k + 1)) = wordsK (ws.take k) (bs.take k) ++ (List.replicate (if b = true then (1 : Int) else 0).toNat [a]).flatten := by
  unfold wordsK
  obtain ⟨h1, e1⟩ := List.getElem?_eq_some_iff.mp ha
  obtain ⟨h2, e2⟩ := List.getElem?_eq_some_iff.mp hb
  rw [List.take_succ, List.take_succ, ha, hb, List.zip_append (by rw [List.length_take, List.length_take]; omega), List.map_append, List.flatten_append]
  simp
theorem words_one {nm : Str} (h : nm ∈ five) : wordsK ["items", "number", "places", "width", "words"] ([decide ("InvalidItems" = nm), decide ("InvalidNumber" = nm), decide ("InvalidPlaces" = nm)] ++ [decide ("InvalidWidth" = nm), decide ("InvalidWords" = nm)]) = [wordK nm] := by
  simp only [List.mem_cons, List.not_mem_nil, or_false] at h
  rcases h with rfl | rfl | rfl | rfl | rfl <;> decide +kernel
abbrev WS5 : List Str := ["items", "number", "places", "width", "words"]
theorem words_len (ws : List Str) (bs : List Bool) : (wordsK ws bs).length ≤ ws.length := by
  have key : ∀ l : List (Str × Bool), ((l.map fun p => (List.replicate (if p.2 = true then (1 : Int) else 0).toNat [p.1]).flatten).flatten).length ≤ l.length := by
    intro l
    induction l with
    | nil => exact Nat.le_refl _
    | cons p l ih =>
      rw [List.map_cons, List.flatten_cons, List.length_append]
      have : ((List.replicate (if p.2 = true then (1 : Int) else 0).toNat [p.1]).flatten).length ≤ 1 := by
        obtain ⟨a, b⟩ := p
        cases b <;> simp
      rw [List.length_cons]
      omega
  refine Nat.le_trans (key _) ?_
  rw [List.length_zip]
  exact Nat.min_le_left _ _
theorem word_lay {nm : Str} (h : nm ∈ five) : ∀ x ∈ [wordK nm], (PyData.str x).canLay0 = true := by
  intro x hx
  rw [List.mem_singleton.mp hx]
  simp only [List.mem_cons, List.not_mem_nil, or_false] at h
  rcases h with rfl | rfl | rfl | rfl | rfl <;> decide +kernel
theorem ref_ch {cl : Str → Addr} {dr : Int} {ds : List Dat} {nm : Str} {fd : Dat} {G : Option Addr} (hwho : whoD dr ds = some (nm, fd)) (hsm : ∀ d ∈ ds, d.small) (d0 : 0 ≤ dr) (d4 : dr < 4) :
    ∀ vs B, Alls B [Py.is dr, Py.is ds] vs → ∃ i u, Alls B ((cCalled cl).args i) vs ∧ (cCalled cl).pre i G ∧ (cCalled cl).c i ≤ 0 ∧ (cCalled cl).err i = some (cl nm, u) ∧ Py.is fd u B := by
  intro vs B al
  match vs, al with
  | [v0, v1], (.cons s0 h0 (.cons s1 h1 .nil)) =>
    obtain ⟨xs, hx, hv, hw⟩ := dus h1
    rcases who_like (cl := cl) dr xs with ⟨_, z⟩ | ⟨m, x, hxm, _, z, z2⟩
    · rw [hx, hwho] at z
      cases z
    · rw [hx, hwho] at z
      cases z
      exact ⟨(dr, xs), x.u, (.cons s0 h0 (.cons (Py.stays _) hv .nil)), ⟨by rw [z2]; rfl, fun y hy => hsm _ (hx ▸ List.mem_map_of_mem hy), d0, d4⟩, Nat.le_refl _, z2, hw x hxm⟩
section
variable {G : Option Addr} {c0 c1 c2 c3 c4 c5 c6 c7 : Nat} {t0 t1 t2 t3 t4 t5 t6 t7 : TE} {Γ : AP.Ctx} {g : Addr}
def cRefused4 : AP.Con (Int × (List Dat) × Str × Dat) Bool := ⟨fun i => [Py.is i.1, Py.is i.2.1, Py.is i.2.2.1, Py.is i.2.2.2], fun i G => RefOk i.1 i.2.1 i.2.2.1 i.2.2.2, fun _ => 0, fun i r => r = true⟩
theorem z__law_refused {dr : Int} {ds : (List Dat)} {nw : Str} {fd : Dat} {E : XK} (h0 : AP.Ty G c0 t0 Γ (· = dr)) (h1 : AP.Ty G c1 t1 Γ (· = ds)) (h2 : AP.Ty G c2 t2 Γ (· = nw)) (h3 : AP.Ty G c3 t3 Γ (· = fd)) (hpre : RefOk dr ds nw fd) : AP.Ty G ((c0 + (c1 + (c2 + (c3 + 0)))) + 0) (tCall cRefused4.sp [] E (tCons t0 (tCons t1 (tCons t2 (tCons t3 tNil))))) Γ (· = true) := ty_call (C := cRefused4) (dr, ds, nw, fd) (ta_cons h0 (ta_cons h1 (ta_cons h2 (ta_cons h3 ta_nil)))) hpre
end
section
variable {P : Program} {w : World} {K : PySem.W.Frag} {mg : Str → Option Value} {base : Heap}
abbrev s_law_refused : Stmt := topS 47
theorem sc_law_refused : FnScope ["_law_door", "_law_args", "_law_name", "_law_field", "_law_words_here", "_law_caught", "_law_kept", "error", "_law_kinds", "_law_word", "_law_kind"] ["_law_door", "_law_args", "_law_name", "_law_field"] (defScope s_law_refused) := ⟨rfl, rfl, rfl, by decide +kernel, rfl, by decide +kernel, by decide +kernel⟩
theorem ok_law_refused {f : Addr} {fd : FuncData} (F : Df K "_law_refused" "_law_refused" s_law_refused [] f fd) (T : TN mg) {cl : Str → Addr} (EC : ErrF K mg cl five) (FX_law_called : FoX P w K mg base "_law_called" 8 ["_law_door", "_law_args"] (cCalled cl).spX) :
    FnG P w K mg base CX0 10 f fd ["_law_door", "_law_args", "_law_name", "_law_field"] cRefused4.sp := by
  refine con_goG F sc_law_refused cRefused4 (fun _ => rfl) fun cdv A outer s H E i G z0 B0 ng hr hp at0 hz => ⟨_, (pss_cons (ps_par3 (i := 4) (j := 5) (l := 6) rfl sc_law_refused.nd rfl rfl rfl (by decide) (by decide) (by decide) rfl rfl rfl (pa_cons (pe_lst pa_nil) (pa_cons pe_non (pa_cons (pe_callB (r := rReprE K) (call_reprE ng hr.units) (by rfl) T.b_repr (by decide +kernel) (pa_cons (pv 1) pa_nil)) pa_nil))) (by rfl))
     (pss_cons (ps_try_keep rfl rfl rfl sc_law_refused.nd rfl rfl ⟨by rfl, by decide, .inl EC.b⟩ (fun W pn xe tk => pss_one (ps_expr (pe_foXS FX_law_called (hr.mono (by decide)) tk (by rfl) (pa_cons (pv 0) (pa_cons (pv 1) pa_nil))))) (fun a oe pn => pss_one (ps_set (i := 5) sc_law_refused.nd rfl (.inl rfl) (pv 7))))
     (pss_cons (ps_if (PW.pt (pw_or (pt_cmpR op_isN (pv 5) pe_non (nomark _)) (pw_or (pt_cmpR op_ne (pv 6) (pe_callB (r := rReprE K) (call_reprE ng hr.units) (by rfl) T.b_repr (by decide +kernel) (pa_cons (pv 1) pa_nil)) (nomark _)) (pw_or1 (pt_not (pt_val (pe_callB (r := rIsQ K) call_isQ (by rfl) T.b_isinstance (by decide +kernel) (pa_cons (pv 5) (pa_cons (pe_bltn (by rfl) T.b_ValueError (by decide +kernel) (show L2.RelV (.ty "ValueError") (.type "ValueError") from rfl)) pa_nil))))))))) (pss_one ps_never) pss_nil)
     (pss_cons (ps_set (i := 8) sc_law_refused.nd rfl (.inl rfl) (pe_lst (pa_cons (pe_callB (r := rIsQ K) call_isQ (by rfl) T.b_isinstance (by decide +kernel) (pa_cons (pv 5) (pa_cons (pe_glob (v := .ref (cl "InvalidItems")) (by rfl) (EC.m "InvalidItems" (by decide)) rfl) pa_nil))) (pa_cons (pe_callB (r := rIsQ K) call_isQ (by rfl) T.b_isinstance (by decide +kernel) (pa_cons (pv 5) (pa_cons (pe_glob (v := .ref (cl "InvalidNumber")) (by rfl) (EC.m "InvalidNumber" (by decide)) rfl) pa_nil))) (pa_cons (pe_callB (r := rIsQ K) call_isQ (by rfl) T.b_isinstance (by decide +kernel) (pa_cons (pv 5) (pa_cons (pe_glob (v := .ref (cl "InvalidPlaces")) (by rfl) (EC.m "InvalidPlaces" (by decide)) rfl) pa_nil))) pa_nil)))))
     (pss_cons (ps_set (i := 8) sc_law_refused.nd rfl (.inl rfl) (pe_op op_cat (pv 8) (pe_lst (pa_cons (pe_callB (r := rIsQ K) call_isQ (by rfl) T.b_isinstance (by decide +kernel) (pa_cons (pv 5) (pa_cons (pe_glob (v := .ref (cl "InvalidWidth")) (by rfl) (EC.m "InvalidWidth" (by decide)) rfl) pa_nil))) (pa_cons (pe_callB (r := rIsQ K) call_isQ (by rfl) T.b_isinstance (by decide +kernel) (pa_cons (pv 5) (pa_cons (pe_glob (v := .ref (cl "InvalidWords")) (by rfl) (EC.m "InvalidWords" (by decide)) rfl) pa_nil))) pa_nil)))))
     (pss_cons (ps_for PassesOwn.never rfl (pi_zipA' (K := K) (by rfl) T.b_zip (pa_cons (pe_lst (pa_cons pe_str (pa_cons pe_str (pa_cons pe_str (pa_cons pe_str (pa_cons pe_str pa_nil)))))) (pa_cons (pv 8) pa_nil))) (pg_tup rfl (pgs_cons (pg_name (i := 9) sc_law_refused.nd rfl (.inl rfl)) (pgs_cons (pg_name (i := 10) sc_law_refused.nd rfl (.inl rfl)) pgs_nil)))
      (pss_one (ps_set (i := 4) sc_law_refused.nd rfl (.inl rfl) (pe_op op_cat (pv 4) (pe_op op_rep (pe_lst (pa_cons (pv 9) pa_nil)) (pe_callTy (r := rInt1) call_int1 (by rfl) T.b_int (by decide +kernel) (pa_cons (pv 10) pa_nil)))))))
     (pss_one (ps_ret (pe_and (pe_cmpR (r := rEqD K) (op_eqD hr.units) (pv 4) (pe_lst (pa_cons (pv 2) pa_nil)) (nomark _)) (pe_one (pe_cmpR op_eq (pe_callB (r := rReprE K) (call_reprE ng hr.units) (by rfl) T.b_repr (by decide +kernel) (pa_cons (pe_errQ (f := "value") (pv 5)) pa_nil)) (pe_callB (r := rReprE K) (call_reprE ng hr.units) (by rfl) T.b_repr (by decide +kernel) (pa_cons (pv 3) pa_nil)) (nomark _)))))))))))), fun σ Q en q => ?_⟩
  obtain ⟨dr, ds, nw, fd⟩ := i
  have hp : RefOk dr ds nw fd := hp
  have hz1 : z0 + (0 : Nat) ≤ 2 ^ 50 := hz
  have n := Nx.refl at0
  obtain ⟨⟨nm, hwho, hwd⟩, hsm, d0, d4, rw_, dep⟩ := hp
  obtain ⟨hnm, hfd⟩ := who_five hwho
  obtain ⟨rwf, depf⟩ := rw_item rw_ dep hfd
  refine q_par3S at0 n en (i := 4) (j := 5) (l := 6) (ty_nil (α := Str)) ty_n (ty_reprE (ty_var (x := ds) rfl).datLst dep rw_ (by decide) (by decide)) (by omega) fun words caught kept z' B' H' σ' e_words e_caught e_kept s n en => ?_
  refine q_tryXS (C := cCalled cl) (c2 := 0) (ii := 7) (jj := 5) (Cl := cl nm) at0 n en (ta_cons (ty_var (x := dr) rfl) (ta_cons (ty_var (x := ds) rfl) ta_nil)) (ref_ch hwho hsm d0 d4) (EC.exm nm hnm) (by omega) fun caught2 z' B' H' σ' h_caught2 s n en => ?_
  refine q_not at0 n en (((tt_or (tt_test (ty_isNO no_err (ty_var (x := caught2) rfl).opt)) fun hb => (tt_or (tt_test (ty_neS (ty_var (x := kept) rfl) (ty_reprE (ty_var (x := ds) rfl).datLst dep rw_ (by decide) (by decide)))) fun hb => (tt_notD (tt_B (ty_isQ (cl := .ty "ValueError") (cv := .type "ValueError") (b := true) (ty_var (x := caught2) rfl) (fun _ r => r) fun e he => by subst he; exact ⟨h_caught2.1 ▸ EC.k nm hnm, h_caught2.1 ▸ EC.kitV nm hnm⟩)))))).to (by rw [e_kept]; simp)) (by omega) fun z' B' H' s n en => ?_
  refine q_asgS at0 n en (i := 8) (ty_lit (tl_cons (ty_isQ (cl := .ref (cl "InvalidItems")) (cv := .ref (cl "InvalidItems")) (b := (decide ("InvalidItems" = nm))) (ty_var (x := caught2) rfl) (fun _ r => r) fun e he => by subst he; exact ⟨h_caught2.1 ▸ EC.k nm hnm, h_caught2.1 ▸ EC.kit nm hnm "InvalidItems" (by decide)⟩) (tl_cons (ty_isQ (cl := .ref (cl "InvalidNumber")) (cv := .ref (cl "InvalidNumber")) (b := (decide ("InvalidNumber" = nm))) (ty_var (x := caught2) rfl) (fun _ r => r) fun e he => by subst he; exact ⟨h_caught2.1 ▸ EC.k nm hnm, h_caught2.1 ▸ EC.kit nm hnm "InvalidNumber" (by decide)⟩) (tl_cons (ty_isQ (cl := .ref (cl "InvalidPlaces")) (cv := .ref (cl "InvalidPlaces")) (b := (decide ("InvalidPlaces" = nm))) (ty_var (x := caught2) rfl) (fun _ r => r) fun e he => by subst he; exact ⟨h_caught2.1 ▸ EC.k nm hnm, h_caught2.1 ▸ EC.kit nm hnm "InvalidPlaces" (by decide)⟩) tl_nil))) (by simp)) (by omega) fun kinds z' B' H' σ' e_kinds s n en => ?_
  refine q_asgS at0 n en (i := 8) (ty_cat (ty_var (x := kinds) rfl) (ty_lit (tl_cons (ty_isQ (cl := .ref (cl "InvalidWidth")) (cv := .ref (cl "InvalidWidth")) (b := (decide ("InvalidWidth" = nm))) (ty_var (x := caught2) rfl) (fun _ r => r) fun e he => by subst he; exact ⟨h_caught2.1 ▸ EC.k nm hnm, h_caught2.1 ▸ EC.kit nm hnm "InvalidWidth" (by decide)⟩) (tl_cons (ty_isQ (cl := .ref (cl "InvalidWords")) (cv := .ref (cl "InvalidWords")) (b := (decide ("InvalidWords" = nm))) (ty_var (x := caught2) rfl) (fun _ r => r) fun e he => by subst he; exact ⟨h_caught2.1 ▸ EC.k nm hnm, h_caught2.1 ▸ EC.kit nm hnm "InvalidWords" (by decide)⟩) tl_nil)) (by simp)) (by rw [e_kinds]; simp)) (by omega) fun kinds2 z' B' H' σ' e_kinds2 s n en => ?_
  refine q_forZS at0 n en (cb := 0) (ty_lit (tl_cons ty_s (tl_cons ty_s (tl_cons ty_s (tl_cons ty_s (tl_cons ty_s tl_nil))))) (by simp)) (ty_var (x := kinds2) rfl) (by omega) (fun k Γ B H => ∃ (words : (List Str)) (o7 o9 o10 : Option VP), Γ = [some (Py.is (dr : Int)), some (Py.is (ds : (List Dat))), some (Py.is (nw : Str)), some (Py.is (fd : Dat)), some (Py.is words), some (Py.is (caught2 : ErrV)), some (Py.is (kept : Str)), o7, some (Py.is (kinds2 : (List Bool))), o9, o10] ∧ (words = wordsK (WS5.take k) (kinds2.take k))) (fun z' B' H' s en => ⟨words, _, _, _, rfl, e_words⟩) (fun _ _ _ _ _ h _ => h) (fun Bs k word kind Γ' z' B' H' σ' hx hy inv eb n en => ?_) fun Γ' z' B' H' σ' inv eb2 n en => ?_
  · obtain ⟨words, o7, o9, o10, rfl, inv⟩ := inv
    have wl : words.length ≤ 5 := by rw [inv]; exact Nat.le_trans (words_len _ _) (by rw [List.length_take]; exact Nat.min_le_right _ _)
    refine q_asg at0 n en (i := 4) (ty_cat (ty_var (x := words) rfl) (ty_rep (ty_lit (tl_cons (ty_var (x := word) rfl) tl_nil) (by simp)) (ty_intB (ty_var (x := kind) rfl)) ⟨by split <;> omega, by split <;> omega⟩ (by cases kind <;> simp)) (by cases kind <;> simp <;> omega)) (by omega) fun words2 z' B' H' σ' e_words2 s n en => ?_
    have eb := eb.trans s.up
    exact ⟨_, z', B', ⟨words2, _, _, _, rfl, by rw [e_words2, inv]; exact (words_step hx hy).symm⟩, eb, n.le (by omega), en⟩
  · obtain ⟨words, o7, o9, o10, rfl, inv⟩ := inv
    have W5 : words = [wordK nm] := by rw [inv, e_kinds2, e_kinds]; exact words_one hnm
    refine q_ret at0 n en (ty_andV (ty_eqSS (ty_var (x := words) rfl) (ty_lit (tl_cons (ty_var (x := nw) rfl) tl_nil) (by simp)) (by rw [W5]; exact word_lay hnm) (by rw [← hwd]; exact word_lay hnm)) fun hb => (ty_eqS (ty_reprE (ty_valQ (ty_var (x := caught2) rfl) fun e he => by subst he; exact ⟨h_caught2.1 ▸ EC.k nm hnm, h_caught2.2⟩) depf rwf (by decide) (by decide)) (ty_reprE (ty_var (x := fd) rfl) depf rwf (by decide) (by decide)))) (by omega) fun x v z' B' H' e n h => q x v z' B' H' ?_ (n.le (by show _ ≤ 0; omega)) h
    exact e.trans (by rw [W5, hwd]; simp)
end
end K04
set_option maxHeartbeats 4000000
namespace K04
open PySem PySem.Spec PyProof.Rows L2 AP Evl
theorem pl_step {wd place : Int} {found : List Int} {k : Nat} (inv : PlInv wd found k) (h : 0 ≤ place ∧ place < 2 ^ wd.toNat) : PlInv wd (found ++ (List.replicate (if (!decide (place ∈ found)) = true then (1 : Int) else 0).toNat [place]).flatten) (k + 1) := by
  by_cases m : place ∈ found
  · rw [decide_eq_true m]
    show PlInv wd (found ++ []) (k + 1)
    rw [List.append_nil]
    exact inv.old m
  · rw [decide_eq_false m]
    exact inv.new m h
section
variable {G : Option Addr} {c0 c1 c2 c3 c4 c5 c6 c7 : Nat} {t0 t1 t2 t3 t4 t5 t6 t7 : TE} {Γ : AP.Ctx} {g : Addr}
theorem z__law_random {b : Int} {E : XK} (h0 : AP.Ty (some g) c0 t0 Γ (· = GenR.mk g)) (h1 : AP.Ty (some g) c1 t1 Γ (· = b)) (hpre : 0 < b ∧ b.natAbs < 2 ^ 8999) : AP.Ty (some g) ((c0 + (c1 + 0)) + 300) (tCall cRandom.sp [] E (tCons t0 (tCons t1 tNil))) Γ (fun r : Int => 0 ≤ r ∧ r < b) := ty_call (C := cRandom) (g, b) (ta_cons h0 (ta_cons h1 ta_nil)) ⟨rfl, hpre⟩
def cPower4 : AP.Con (Int × Int) Int := ⟨fun i => [Py.is i.1, Py.is i.2], fun i G => i.1 = 2 ∧ 0 ≤ i.2 ∧ i.2 ≤ 200, fun _ => 0, fun i r => r = (2 : Int) ^ i.2.toNat⟩
theorem z__law_power {b : Int} {m : Int} {E : XK} (h0 : AP.Ty G c0 t0 Γ (· = b)) (h1 : AP.Ty G c1 t1 Γ (· = m)) (hpre : b = 2 ∧ 0 ≤ m ∧ m ≤ 200) : AP.Ty G ((c0 + (c1 + 0)) + 0) (tCall cPower4.sp [] E (tCons t0 (tCons t1 tNil))) Γ (· = (2 : Int) ^ m.toNat) := ty_call (C := cPower4) (b, m) (ta_cons h0 (ta_cons h1 ta_nil)) hpre
def cPlaces4 : AP.Con (Addr × Int × Int) (List Int) := ⟨fun i => [Py.is (GenR.mk i.1), Py.is i.2.1, Py.is i.2.2], fun i G => G = some i.1 ∧ (1 ≤ i.2.1 ∧ i.2.1 ≤ 64 ∧ 1 ≤ i.2.2 ∧ i.2.2 ≤ 100), fun _ => 40000, fun i r => AscN i.2.1 i.2.2 r⟩
theorem z__law_places {wd : Int} {most : Int} {E : XK} (h0 : AP.Ty (some g) c0 t0 Γ (· = GenR.mk g)) (h1 : AP.Ty (some g) c1 t1 Γ (· = wd)) (h2 : AP.Ty (some g) c2 t2 Γ (· = most)) (hpre : 1 ≤ wd ∧ wd ≤ 64 ∧ 1 ≤ most ∧ most ≤ 100) : AP.Ty (some g) ((c0 + (c1 + (c2 + 0))) + 40000) (tCall cPlaces4.sp [] E (tCons t0 (tCons t1 (tCons t2 tNil)))) Γ (fun r : (List Int) => AscN wd most r) := ty_call (C := cPlaces4) (g, wd, most) (ta_cons h0 (ta_cons h1 (ta_cons h2 ta_nil))) ⟨rfl, hpre⟩
def cWords4 : AP.Con (Addr × Int × Int) (List Int) := ⟨fun i => [Py.is (GenR.mk i.1), Py.is i.2.1, Py.is i.2.2], fun i G => G = some i.1 ∧ (1 ≤ i.2.1 ∧ i.2.1 ≤ 64 ∧ 0 ≤ i.2.2 ∧ i.2.2 ≤ 100), fun _ => 30000, fun i r => ((r.length : Nat) : Int) = i.2.2 ∧ ∀ x ∈ r, 0 ≤ x ∧ x < 2 ^ i.2.1.toNat⟩
theorem z__law_words {wd : Int} {m : Int} {E : XK} (h0 : AP.Ty (some g) c0 t0 Γ (· = GenR.mk g)) (h1 : AP.Ty (some g) c1 t1 Γ (· = wd)) (h2 : AP.Ty (some g) c2 t2 Γ (· = m)) (hpre : 1 ≤ wd ∧ wd ≤ 64 ∧ 0 ≤ m ∧ m ≤ 100) : AP.Ty (some g) ((c0 + (c1 + (c2 + 0))) + 30000) (tCall cWords4.sp [] E (tCons t0 (tCons t1 (tCons t2 tNil)))) Γ (fun r : (List Int) => ((r.length : Nat) : Int) = m ∧ ∀ x ∈ r, 0 ≤ x ∧ x < 2 ^ wd.toNat) := ty_call (C := cWords4) (g, wd, m) (ta_cons h0 (ta_cons h1 (ta_cons h2 ta_nil))) ⟨rfl, hpre⟩
end
section
variable {P : Program} {w : World} {K : PySem.W.Frag} {mg : Str → Option Value} {base : Heap}
abbrev s_law_power : Stmt := topS 43
theorem sc_law_power : FnScope ["_law_number", "_law_times", "_law_found", "_law_turn"] ["_law_number", "_law_times"] (defScope s_law_power) := ⟨rfl, rfl, rfl, by decide +kernel, rfl, by decide +kernel, by decide +kernel⟩
theorem ok_law_power {f : Addr} {fd : FuncData} (F : Df K "_law_power" "_law_power" s_law_power [] f fd) (T : TN mg)   :
    FnOk P w K mg base CX0 1 f fd ["_law_number", "_law_times"] cPower4.sp := by
  refine con_go F sc_law_power cPower4 (fun _ => rfl) fun cdv A outer s H E i G z0 B0 hr hp at0 hz => ⟨_, (pss_cons (ps_set (i := 2) sc_law_power.nd rfl (.inl rfl) pe_int)
     (pss_cons (ps_for PassesOwn.never rfl (pi_range1 (by rfl) T.b_range (pa_cons (pv 1) pa_nil)) (pg_name (i := 3) sc_law_power.nd rfl (.inl rfl))
      (pss_one (ps_set (i := 2) sc_law_power.nd rfl (.inl rfl) (pe_op op_mulW (pv 2) (pv 0)))))
     (pss_one (ps_ret (pv 2))))), fun σ Q en q => ?_⟩
  obtain ⟨b, m⟩ := i
  have hp : b = 2 ∧ 0 ≤ m ∧ m ≤ 200 := hp
  have hz1 : z0 + (0 : Nat) ≤ 2 ^ 50 := hz
  have n := Nx.refl at0
  obtain ⟨e2, m0, m1⟩ := hp
  refine q_asgS at0 n en (i := 2) ty_i (by omega) fun found z' B' H' σ' e_found s n en => ?_
  replace e_found := e_found.symm
  subst e_found
  refine q_for1S at0 n en (cb := 0) (ty_var (x := m) rfl) ⟨by omega, by omega⟩ (by omega) (fun k Γ B H => ∃ (found : Int) (o3 : Option VP), Γ = [some (Py.is (b : Int)), some (Py.is (m : Int)), some (Py.is found), o3] ∧ (found = 2 ^ k)) (fun z' B' H' s en => ⟨(1 : Int), _, rfl, rfl⟩) (fun _ _ _ _ _ h _ => h) (fun Bs k  Γ' z' B' H' σ' hk inv eb n en => ?_) fun Γ' z' B' H' σ' inv eb2 n en => ?_
  · obtain ⟨found, o3, rfl, inv⟩ := inv
    have fb : found.natAbs < 2 ^ 201 := by rw [inv, two_cast', Int.natAbs_natCast]; exact Nat.pow_lt_pow_right (by decide) (by omega)
    refine q_asg at0 n en (i := 2) (ty_I (C := CMulW) (f := fun a b => a * b) (ty_var (x := found) rfl) (ty_var (x := b) rfl) (wide_mul (a := 201) (b := 10) fb (by rw [e2]; decide) (by decide) (by decide) (by decide))) (by omega) fun found2 z' B' H' σ' e_found2 s n en => ?_
    have eb := eb.trans s.up
    exact ⟨_, z', B', ⟨found2, _, rfl, by rw [e_found2, inv, e2, Int.pow_succ]⟩, eb, n.le (by omega), en⟩
  · obtain ⟨found, o3, rfl, inv⟩ := inv
    refine q_ret at0 n en (ty_var (x := found) rfl) (by omega) fun x v z' B' H' e n h => q x v z' B' H' ?_ (n.le (by show _ ≤ 0; omega)) h
    exact e.trans inv
abbrev s_law_places : Stmt := topS 44
theorem sc_law_places : FnScope ["_law_generator_here", "_law_width", "_law_most", "_law_top", "_law_found", "_law_turn", "_law_place"] ["_law_generator_here", "_law_width", "_law_most"] (defScope s_law_places) := ⟨rfl, rfl, rfl, by decide +kernel, rfl, by decide +kernel, by decide +kernel⟩
theorem ok_law_places {f : Addr} {fd : FuncData} (F : Df K "_law_places" "_law_places" s_law_places [] f fd) (T : TN mg)  (F_law_power : Fo P w K mg base "_law_power" 1 ["_law_number", "_law_times"] cPower4.sp) (F_law_random : Fo P w K mg base "_law_random" 2 ["_law_generator_here", "_law_bound"] cRandom.sp) :
    FnOk P w K mg base CX0 3 f fd ["_law_generator_here", "_law_width", "_law_most"] cPlaces4.sp := by
  refine con_go F sc_law_places cPlaces4 (fun _ => rfl) fun cdv A outer s H E i G z0 B0 hr hp at0 hz => ⟨_, (pss_cons (ps_par (i := 3) (j := 4) rfl sc_law_places.nd rfl rfl (by decide) rfl rfl (pa_cons (pe_fo F_law_power (hr.mono (by decide)) (by rfl) (pa_cons pe_int (pa_cons (pv 1) pa_nil))) (pa_cons (pe_lst pa_nil) pa_nil)) (by rfl))
     (pss_cons (ps_for PassesOwn.never rfl (pi_range1 (by rfl) T.b_range (pa_cons (pe_op op_add pe_int (pe_fo F_law_random (hr.mono (by decide)) (by rfl) (pa_cons (pv 0) (pa_cons (pv 2) pa_nil)))) pa_nil)) (pg_name (i := 5) sc_law_places.nd rfl (.inl rfl))
      (pss_cons (ps_set (i := 6) sc_law_places.nd rfl (.inl rfl) (pe_fo F_law_random (hr.mono (by decide)) (by rfl) (pa_cons (pv 0) (pa_cons (pv 3) pa_nil))))
     (pss_one (ps_set (i := 4) sc_law_places.nd rfl (.inl rfl) (pe_op op_cat (pv 4) (pe_op op_rep (pe_lst (pa_cons (pv 6) pa_nil)) (pe_callTy (r := rInt1) call_int1 (by rfl) T.b_int (by decide +kernel) (pa_cons (pe_cmpR (r := rIn K true) op_notIn_seq (pv 6) (pv 4) (by rfl)) pa_nil))))))))
     (pss_one (ps_ret (pe_callB (r := rSortedI K) cr_sortedI (by rfl) T.b_sorted (by decide +kernel) (pa_cons (pv 4) pa_nil)))))), fun σ Q en q => ?_⟩
  obtain ⟨g, wd, most⟩ := i
  obtain ⟨eG, hp⟩ := hp
  subst eG
  have hp : 1 ≤ wd ∧ wd ≤ 64 ∧ 1 ≤ most ∧ most ≤ 100 := hp
  have hz1 : z0 + (40000 : Nat) ≤ 2 ^ 50 := hz
  have n := Nx.refl at0
  obtain ⟨h1, h2, h3, h4⟩ := hp
  obtain ⟨tp, tp2⟩ := two_pow wd (by omega) (by omega)
  refine q_par at0 n en (i := 3) (j := 4) (z__law_power ty_i (ty_var (x := wd) rfl) ⟨rfl, by omega, by omega⟩) (ty_nil (α := Int)) (by omega) fun top found z' B' H' σ' e_top e_found s n en => ?_
  refine q_for1NS at0 n en (cb := 300) (ty_I0N (f := fun a b => a + b) ty_i (z__law_random (ty_var (x := GenR.mk g) rfl) (ty_var (x := most) rfl) (small_b (by omega) (Int.le_trans (b := 100) (by omega) (by decide))))) (fun m hm => by obtain ⟨i, j, e1, hj, e2⟩ := hm; have e1 : i = 1 := e1; have hj : 0 ≤ j ∧ j < most := hj; have e2 : m = i + j := e2; omega) (by omega) (fun k Γ B H => ∃ (found : (List Int)) (o5 o6 : Option VP), Γ = [some (Py.is (GenR.mk g)), some (Py.is (wd : Int)), some (Py.is (most : Int)), some (Py.is (top : Int)), some (Py.is found), o5, o6] ∧ (PlInv wd found k)) (fun z' B' H' s en => ⟨found, _, _, rfl, by rw [e_found]; exact PlInv.start⟩) (fun _ _ _ _ _ h _ => h) (fun src hsrc Bs k  Γ' z' B' H' σ' hk inv eb n en => ?_) fun src hsrc Γ' z' B' H' σ' inv eb2 n en => ?_
  · obtain ⟨found, o5, o6, rfl, inv⟩ := inv
    have hk2 : k ≤ 100 := by
      obtain ⟨i, j, e1, hj, e2⟩ := hsrc
      have e1 : i = 1 := e1
      have hj : 0 ≤ j ∧ j < most := hj
      have e2 : src = i + j := e2
      omega
    refine q_asgS at0 n en (i := 6) (z__law_random (ty_var (x := GenR.mk g) rfl) (ty_var (x := top) rfl) (by rw [e_top]; exact small_b tp tp2)) (by omega) fun place z' B' H' σ' e_place s n en => ?_
    have eb := eb.trans s.up
    refine q_asg at0 n en (i := 4) (ty_cat (ty_var (x := found) rfl) (ty_rep (ty_lit (tl_cons (ty_var (x := place) rfl) tl_nil) (by simp)) (ty_intB (ty_notIn (ty_var (x := place) rfl) (ty_var (x := found) rfl))) ⟨by split <;> omega, by split <;> omega⟩ (by split <;> simp)) (by have := inv.le; split <;> simp <;> omega)) (by omega) fun found2 z' B' H' σ' e_found2 s n en => ?_
    have eb := eb.trans s.up
    exact ⟨_, z', B', ⟨found2, _, _, rfl, by rw [e_found2]; exact pl_step inv (e_top ▸ e_place)⟩, eb, n.le (by omega), en⟩
  · obtain ⟨found, o5, o6, rfl, inv⟩ := inv
    have hk2 : src.toNat ≤ 100 := by
      obtain ⟨i, j, e1, hj, e2⟩ := hsrc
      have e1 : i = 1 := e1
      have hj : 0 ≤ j ∧ j < most := hj
      have e2 : src = i + j := e2
      omega
    refine q_ret at0 n en (ty_sortedN (ty_var (x := found) rfl)) (by omega) fun x v z' B' H' e n h => q x v z' B' H' ?_ (n.le (by show _ ≤ 40000; omega)) h
    exact PlInv.done inv hsrc e
abbrev s_law_words : Stmt := topS 45
theorem sc_law_words : FnScope ["_law_generator_here", "_law_width", "_law_many", "_law_turn"] ["_law_generator_here", "_law_width", "_law_many"] (defScope s_law_words) := ⟨rfl, rfl, rfl, by decide +kernel, rfl, by decide +kernel, by decide +kernel⟩
theorem ok_law_words {f : Addr} {fd : FuncData} (F : Df K "_law_words" "_law_words" s_law_words [] f fd) (T : TN mg)  (F_law_random : Fo P w K mg base "_law_random" 2 ["_law_generator_here", "_law_bound"] cRandom.sp) (F_law_power : Fo P w K mg base "_law_power" 1 ["_law_number", "_law_times"] cPower4.sp) :
    FnOk P w K mg base CX0 3 f fd ["_law_generator_here", "_law_width", "_law_many"] cWords4.sp := by
  refine con_go F sc_law_words cWords4 (fun _ => rfl) fun cdv A outer s H E i G z0 B0 hr hp at0 hz => ⟨_, (pss_one (ps_ret (pe_lc (own := [("_law_turn", 3)]) rfl sc_law_words.nd (pi_range1 (by rfl) T.b_range (pa_cons (pv 2) pa_nil)) (blkOk_by (own := [("_law_turn", 3)]) (N := ["_law_generator_here", "_law_width", "_law_many", "_law_turn"]) (sc := defScope s_law_words) (by decide +kernel)) (fun _ _ _ _ _ => (pg_name (i := 3) sc_law_words.nd rfl (Or.inl rfl))) (fun _ _ _ _ _ => pts_nil) (fun _ _ _ _ _ => (pe_fo F_law_random (hr.mono (by decide)) (by rfl) (pa_cons (pv 0) (pa_cons (pe_fo F_law_power (hr.mono (by decide)) (by rfl) (pa_cons pe_int (pa_cons (pv 1) pa_nil))) pa_nil))))))), fun σ Q en q => ?_⟩
  obtain ⟨g, wd, m⟩ := i
  obtain ⟨eG, hp⟩ := hp
  subst eG
  have hp : 1 ≤ wd ∧ wd ≤ 64 ∧ 0 ≤ m ∧ m ≤ 100 := hp
  have hz1 : z0 + (30000 : Nat) ≤ 2 ^ 50 := hz
  have n := Nx.refl at0
  obtain ⟨h1, h2, h3, h4⟩ := hp
  obtain ⟨tp, tp2⟩ := two_pow wd (by omega) (by omega)
  refine q_ret at0 n en (ty_lc1N (ty_var (x := m) rfl) (show m ≤ ((100 : Nat) : Int) ∧ 100 ≤ 40000 from ⟨by omega, by decide⟩) (by simp) fun turn h0_turn h1_turn => (z__law_random (ty_var (x := GenR.mk g) rfl) (z__law_power ty_i (ty_var (x := wd) rfl) ⟨rfl, by omega, by omega⟩) (small_b tp tp2))) (by omega) fun x v z' B' H' e n h => q x v z' B' H' ?_ (n.le (by show _ ≤ 30000; omega)) h
  exact ⟨by have := e.1; show ((x.length : Nat) : Int) = m; omega, e.2⟩
end
end K04
set_option maxHeartbeats 4000000
namespace K04
open PySem PySem.Spec PyProof.Rows L2 AP Evl
def smallB : Dat → Bool
  | .lst ds => decide (ds.length ≤ 30000)
  | _ => true
structure Gd (d : Dat) : Prop where
  small : d.small
  rw_ : Rw 200 4000 d
  dep : d.py.depth ≤ 50
def GdB (d : Dat) : Bool := smallB d && (d.py.showable && (d.py.leavesShort 200 && (decide (d.py.weight ≤ 4000) && decide (d.py.depth ≤ 50))))
theorem gd_of {d : Dat} (h : GdB d = true) : Gd d := by
  unfold GdB at h
  simp only [Bool.and_eq_true, decide_eq_true_eq] at h
  obtain ⟨a, b, c, e, f⟩ := h
  refine ⟨?_, ⟨b, c, e⟩, f⟩
  cases d with
  | lst ds => exact (of_decide_eq_true (show decide (ds.length ≤ 30000) = true from a) : ds.length ≤ 30000)
  | _ => trivial
theorem gd_int {n : Int} (h : n.natAbs < 2 ^ 65) : Gd (.int n) := ⟨trivial, (rw_int (k := 65) h (by decide) (by decide) (by decide)).mono (by decide), Nat.zero_le _⟩
theorem ints_dep : ∀ l : List Int, PyData.depthAll (pyAll (l.map Dat.int)) ≤ 0
  | [] => Nat.le_refl _
  | x :: l => Nat.max_le.mpr ⟨Nat.le_refl _, ints_dep l⟩
theorem gd_ints {l : List Int} (hl : l.length ≤ 40) (hb : ∀ x ∈ l, x.natAbs < 2 ^ 65) : Gd (.lst (l.map Dat.int)) :=
  ⟨by show (l.map Dat.int).length ≤ 30000; rw [List.length_map]; omega,
   (rw_lst (m := 40) (fun d hd => by obtain ⟨x, hx, rfl⟩ := List.mem_map.mp hd; exact rw_int (k := 65) (hb x hx) (by decide) (by decide) (by decide)) (by rw [List.length_map]; exact hl)).mono (by decide),
   by show PyData.depthAll (pyAll (l.map Dat.int)) + 1 ≤ 50; have := ints_dep l; omega⟩
theorem gd_tup {l : List Int} (hl : l.length ≤ 40) (hb : ∀ x ∈ l, x.natAbs < 2 ^ 65) : Gd (.tup (l.map Dat.int)) :=
  ⟨trivial,
   (rw_tup (m := 40) (fun d hd => by obtain ⟨x, hx, rfl⟩ := List.mem_map.mp hd; exact rw_int (k := 65) (hb x hx) (by decide) (by decide) (by decide)) (by rw [List.length_map]; exact hl)).mono (by decide),
   by show PyData.depthAll (pyAll (l.map Dat.int)) + 1 ≤ 50; have := ints_dep l; omega⟩
theorem dep_all {n : Nat} : ∀ {ds : List Dat}, (∀ d ∈ ds, d.py.depth ≤ n) → PyData.depthAll (pyAll ds) ≤ n
  | [], _ => Nat.zero_le _
  | d :: ds, h => Nat.max_le.mpr ⟨h d List.mem_cons_self, dep_all fun e he => h e (List.mem_cons_of_mem _ he)⟩
theorem ref_mk {dr : Int} {ds : List Dat} {nm nw : Str} {fd : Dat} (h : whoD dr ds = some (nm, fd)) (e : wordK nm = nw) (g : ∀ d ∈ ds, Gd d) (l : ds.length ≤ 4) (d0 : 0 ≤ dr) (d4 : dr < 4) : RefOk dr ds nw fd :=
  ⟨⟨nm, h, e⟩, fun d hd => (g d hd).small, d0, d4, (rw_lst (m := 4) (fun d hd => (g d hd).rw_) l).mono (by decide), by
    show PyData.depthAll (pyAll ds) + 1 ≤ 60
    have := dep_all (n := 50) fun d hd => (g d hd).dep
    omega⟩
theorem dueD_bad {b : Bool} {nm : Str} {x : Dat} (h : b = false) : dueD b nm x = some (nm, x) := by unfold dueD; rw [h]; rfl
theorem dueD_ok {b : Bool} {nm : Str} {x : Dat} (h : b = true) : dueD b nm x = none := by unfold dueD; rw [h]; rfl
theorem thenD_1 {a b : Option (Str × Dat)} {e : Str × Dat} (h : a = some e) : thenD a b = some e := by rw [h]; rfl
theorem thenD_2 {a b : Option (Str × Dat)} (h : a = none) : thenD a b = b := by rw [h]; rfl
section
variable {dr wd : Int} {a b c e k : Dat} {n : Nat}
theorem ref_w2 (d0 : 0 ≤ dr) (d4 : dr < 4) (ha : a.within 1 64 = false) (ga : Gd a) (gb : Gd b) : RefOk dr [a, b] "width" a :=
  ref_mk (nm := "InvalidWidth") (dueD_bad ha) (by decide) (by simp [ga, gb]) (by simp) d0 d4
theorem ref_w3 (d0 : 0 ≤ dr) (d4 : dr < 4) (ha : a.within 1 64 = false) (ga : Gd a) (gb : Gd b) (gc : Gd c) : RefOk dr [a, b, c] "width" a := by
  refine ref_mk (nm := "InvalidWidth") ?_ (by decide) (by simp [ga, gb, gc]) (by simp) d0 d4
  have h : wD a = some (("InvalidWidth" : Str), a) := dueD_bad ha
  show (if dr = 0 ∨ dr = 1 then _ else if dr = 2 then _ else _) = _
  split
  · exact thenD_1 h
  · split <;> exact thenD_1 h
theorem ref_w4 (d0 : 0 ≤ dr) (d4 : dr < 4) (ha : a.within 1 64 = false) (ga : Gd a) (gb : Gd b) (gc : Gd c) (ge : Gd e) : RefOk dr [a, b, c, e] "width" a :=
  ref_mk (nm := "InvalidWidth") (thenD_1 (dueD_bad ha)) (by decide) (by simp [ga, gb, gc, ge]) (by simp) d0 d4
theorem w_ok (h : 1 ≤ wd ∧ wd ≤ 64) : wD (.int wd) = none := dueD_ok (by rw [Dat.within_eq]; simp [Dat.whole, Dat.toI, h.1, h.2])
theorem gd_w (h : 1 ≤ wd ∧ wd ≤ 64) : Gd (.int wd) := gd_int (by omega)
theorem ref_p3 (hd : dr = 0 ∨ dr = 1) (h : 1 ≤ wd ∧ wd ≤ 64) (hb : placesB wd b = false) (gb : Gd b) (gc : Gd c) : RefOk dr [.int wd, b, c] "places" b := by
  refine ref_mk (nm := "InvalidPlaces") ?_ (by decide) (by simp [gd_w h, gb, gc]) (by simp) (by omega) (by omega)
  show (if dr = 0 ∨ dr = 1 then _ else if dr = 2 then _ else _) = _
  rw [if_pos hd]
  exact (thenD_2 (w_ok h)).trans (dueD_bad hb)
theorem ref_p3s (h : 1 ≤ wd ∧ wd ≤ 64) (hk : wholesB k = true) (hb : placesB wd b = false) (gk : Gd k) (gb : Gd b) : RefOk 3 [.int wd, k, b] "places" b :=
  ref_mk (nm := "InvalidPlaces") ((thenD_2 (w_ok h)).trans ((thenD_2 (dueD_ok hk)).trans (dueD_bad hb))) (by decide) (by simp [gd_w h, gk, gb]) (by simp) (by omega) (by omega)
theorem ref_p4 (d0 : 0 ≤ dr) (d4 : dr < 4) (h : 1 ≤ wd ∧ wd ≤ 64) (hb : placesB wd b = false) (gb : Gd b) (gc : Gd c) (ge : Gd e) : RefOk dr [.int wd, b, c, e] "places" b :=
  ref_mk (nm := "InvalidPlaces") ((thenD_2 (w_ok h)).trans (thenD_1 (dueD_bad hb))) (by decide) (by simp [gd_w h, gb, gc, ge]) (by simp) d0 d4
theorem ref_k (hd : dr = 2 ∨ dr = 3) (h : 1 ≤ wd ∧ wd ≤ 64) (hb : wholesB b = false) (gb : Gd b) (gc : Gd c) : RefOk dr [.int wd, b, c] "items" b := by
  refine ref_mk (nm := "InvalidItems") ?_ (by decide) (by simp [gd_w h, gb, gc]) (by simp) (by omega) (by omega)
  show (if dr = 0 ∨ dr = 1 then _ else if dr = 2 then _ else _) = _
  rw [if_neg (by omega)]
  split <;> exact (thenD_2 (w_ok h)).trans (thenD_1 (dueD_bad hb))
theorem ref_n3 (h : 1 ≤ wd ∧ wd ≤ 64) (hk : wholesB k = true) (hb : b.whole = false) (gk : Gd k) (gb : Gd b) : RefOk 2 [.int wd, k, b] "number" b :=
  ref_mk (nm := "InvalidNumber") ((thenD_2 (w_ok h)).trans ((thenD_2 (dueD_ok hk)).trans (dueD_bad hb))) (by decide) (by simp [gd_w h, gk, gb]) (by simp) (by omega) (by omega)
theorem ref_n1 (d0 : 0 ≤ dr) (d4 : dr < 4) (hb : b.whole = false) (gb : Gd b) : RefOk dr [b] "number" b :=
  ref_mk (nm := "InvalidNumber") (dueD_bad hb) (by decide) (by simp [gb]) (by simp) d0 d4
theorem ref_v1 (d0 : 0 ≤ dr) (d4 : dr < 4) (h : 1 ≤ wd ∧ wd ≤ 64) (hb : placesB wd b = true) (hc : wordsAtB wd b.lenD c = false) (gb : Gd b) (gc : Gd c) (ge : Gd e) : RefOk dr [.int wd, b, c, e] "words" c :=
  ref_mk (nm := "InvalidWords") ((thenD_2 (w_ok h)).trans ((thenD_2 (dueD_ok hb)).trans (thenD_1 (dueD_bad hc)))) (by decide) (by simp [gd_w h, gb, gc, ge]) (by simp) d0 d4
theorem ref_v2 (d0 : 0 ≤ dr) (d4 : dr < 4) (h : 1 ≤ wd ∧ wd ≤ 64) (hb : placesB wd b = true) (hc : wordsAtB wd b.lenD c = true) (he : wordsAtB wd b.lenD e = false) (gb : Gd b) (gc : Gd c) (ge : Gd e) : RefOk dr [.int wd, b, c, e] "words" e :=
  ref_mk (nm := "InvalidWords") ((thenD_2 (w_ok h)).trans ((thenD_2 (dueD_ok hb)).trans ((thenD_2 (dueD_ok hc)).trans (dueD_bad he)))) (by decide) (by simp [gd_w h, gb, gc, ge]) (by simp) d0 d4
end
def AllT (m : Nat) (l : List Bool) : Prop := l = List.replicate m true
theorem AllT.app {m n : Nat} {l l2 : List Bool} (h : AllT m l) (h2 : AllT n l2) : AllT (m + n) (l ++ l2) := by
  unfold AllT at *
  rw [h, h2, List.replicate_append_replicate]
theorem AllT.cast {m n : Nat} {l : List Bool} (h : AllT m l) (e : m = n) : AllT n l := e ▸ h
theorem AllT.len {m : Nat} {l : List Bool} (h : AllT m l) : l.length = m := by
  unfold AllT at h
  rw [h, List.length_replicate]
section
variable {G : Option Addr} {c0 c1 c2 c3 c4 c5 c6 c7 : Nat} {t0 t1 t2 t3 t4 t5 t6 t7 : TE} {Γ : AP.Ctx} {g : Addr}
def cWidR : AP.Con (Int × (List Int)) (List Bool) := ⟨fun i => [Py.is i.1, Py.is i.2], fun i G => Gd (.lst (i.2.map Dat.int)), fun _ => 0, fun i r => r = List.replicate 120 true⟩
theorem z__law_widths_refused {wd : Int} {ps : (List Int)} {E : XK} (h0 : AP.Ty G c0 t0 Γ (· = wd)) (h1 : AP.Ty G c1 t1 Γ (· = ps)) (hpre : Gd (.lst (ps.map Dat.int))) : AP.Ty G ((c0 + (c1 + 0)) + 0) (tCall cWidR.sp [] E (tCons t0 (tCons t1 tNil))) Γ (· = List.replicate 120 true) := ty_call (C := cWidR) (wd, ps) (ta_cons h0 (ta_cons h1 ta_nil)) hpre
end
section
variable {P : Program} {w : World} {K : PySem.W.Frag} {mg : Str → Option Value} {base : Heap}
abbrev s_law_widths_refused : Stmt := topS 48
theorem sc_law_widths_refused : FnScope ["_law_width", "_law_places_here", "_law_due", "_law_bad", "_law_other", "_law_door"] ["_law_width", "_law_places_here"] (defScope s_law_widths_refused) := ⟨rfl, rfl, rfl, by decide +kernel, rfl, by decide +kernel, by decide +kernel⟩
theorem ok_law_widths_refused {f : Addr} {fd : FuncData} (F : Df K "_law_widths_refused" "_law_widths_refused" s_law_widths_refused [] f fd) (T : TN mg)  (F_law_refused : FoG P w K mg base "_law_refused" 10 ["_law_door", "_law_args", "_law_name", "_law_field"] cRefused4.sp) :
    FnG P w K mg base CX0 12 f fd ["_law_width", "_law_places_here"] cWidR.sp := by
  refine con_goG F sc_law_widths_refused cWidR (fun _ => rfl) fun cdv A outer s H E i G z0 B0 ng hr hp at0 hz => ⟨_, (pss_cons (ps_set (i := 2) sc_law_widths_refused.nd rfl (.inl rfl) (pe_lst pa_nil))
     (pss_cons (ps_for PassesOwn.never rfl (pi_listA (K := K) (pe_lst (pa_cons pe_non (pa_cons pe_int (pa_cons pe_int (pa_cons (pe_op op_sub pe_int pe_int) (pa_cons pe_bl (pa_cons pe_str (pa_cons (pe_lst (pa_cons pe_int pa_nil)) (pa_cons (pe_tup (pa_cons pe_int pa_nil)) (pa_cons (pe_op op_powW pe_int pe_int) (pa_cons pe_dnewK pa_nil)))))))))))) (pg_name (i := 3) sc_law_widths_refused.nd rfl (.inr rfl))
      (pss_cons (ps_set (i := 2) sc_law_widths_refused.nd rfl (.inl rfl) (pe_op op_cat (pv 2) (pe_lst (pa_cons (pe_fog F_law_refused ng (hr.mono (by decide)) (by rfl) (pa_cons pe_int (pa_cons (pe_lst (pa_cons (pv 3) (pa_cons pe_int pa_nil))) (pa_cons pe_str (pa_cons (pv 3) pa_nil))))) (pa_cons (pe_fog F_law_refused ng (hr.mono (by decide)) (by rfl) (pa_cons pe_int (pa_cons (pe_lst (pa_cons (pv 3) (pa_cons pe_non pa_nil))) (pa_cons pe_str (pa_cons (pv 3) pa_nil))))) pa_nil)))))
     (pss_one (ps_for PassesOwn.never rfl (pi_listA (K := K) (pe_lst (pa_cons (pv 1) (pa_cons pe_non pa_nil)))) (pg_name (i := 4) sc_law_widths_refused.nd rfl (.inr rfl))
      (pss_cons (ps_set (i := 2) sc_law_widths_refused.nd rfl (.inl rfl) (pe_op op_cat (pv 2) (pe_lc (own := [("_law_door", 5)]) rfl sc_law_widths_refused.nd (pi_range1 (by rfl) T.b_range (pa_cons pe_int pa_nil)) (blkOk_by (own := [("_law_door", 5)]) (N := ["_law_width", "_law_places_here", "_law_due", "_law_bad", "_law_other", "_law_door"]) (sc := defScope s_law_widths_refused) (by decide +kernel)) (fun _ _ _ _ _ => (pg_name (i := 5) sc_law_widths_refused.nd rfl (Or.inl rfl))) (fun _ _ _ _ _ => pts_nil) (fun _ _ _ _ _ => (pe_fog F_law_refused ng (hr.mono (by decide)) (by rfl) (pa_cons (pv 5) (pa_cons (pe_lst (pa_cons (pv 3) (pa_cons (pv 4) (pa_cons pe_non pa_nil)))) (pa_cons pe_str (pa_cons (pv 3) pa_nil)))))))))
     (pss_one (ps_expr (pe_bm PySem.F.plainAttrs_list PySem.F.slot_list_append PySem.F.type_list_append mt_append (pv 2) (pa_cons (pe_fog F_law_refused ng (hr.mono (by decide)) (by rfl) (pa_cons pe_int (pa_cons (pe_lst (pa_cons (pv 3) (pa_cons (pv 4) (pa_cons pe_non (pa_cons pe_non pa_nil))))) (pa_cons pe_str (pa_cons (pv 3) pa_nil))))) pa_nil)))))))))
     (pss_one (ps_ret (pv 2))))), fun σ Q en q => ?_⟩
  obtain ⟨wd, ps⟩ := i
  have hp : Gd (.lst (ps.map Dat.int)) := hp
  have hz1 : z0 + (0 : Nat) ≤ 2 ^ 50 := hz
  have n := Nx.refl at0
  have gn : Gd .non := gd_of (by decide)
  have g0 : Gd (.int 0) := gd_of (by decide +kernel)
  refine q_asgS at0 n en (i := 2) (ty_nil (α := Bool)) (by omega) fun due z' B' H' σ' e_due s n en => ?_
  refine q_forLS at0 n en (cb := 0) (ty_lit (tl_cons ty_n.datNon (tl_cons ty_i.dat (tl_cons ty_i.dat (tl_cons (ty_I0 (f := fun a b => a - b) ty_i ty_i).dat (tl_cons ty_b.dat (tl_cons ty_s.datStr (tl_cons (ty_lit (tl_cons ty_i tl_nil) (by simp)).dat (tl_cons (ty_tupI1 ty_i).dat (tl_cons (ty_I (C := PowOk) (f := fun a b => a ^ b.toNat) ty_i ty_i ⟨by decide, by decide +kernel⟩).dat (tl_cons ty_dnew tl_nil)))))))))) (by simp)) (by omega) (fun k Γ B H => ∃ (due : (List Bool)) (o3 o4 o5 : Option VP), Γ = [some (Py.is (wd : Int)), some (Py.is (ps : (List Int))), some (Py.is due), o3, o4, o5] ∧ (AllT (12 * k) due)) (fun z' B' H' s en => ⟨due, _, _, _, rfl, e_due⟩) (fun _ _ _ _ _ h _ => h) (fun Bs k bad Γ' z' B' H' σ' hx inv eb n en => ?_) fun Γ' z' B' H' σ' inv eb2 n en => ?_
  · obtain ⟨due, o3, o4, o5, rfl, inv⟩ := inv
    have hkk : k < 10 := (List.getElem?_eq_some_iff.mp hx).1
    have hbg : bad.within 1 64 = false ∧ Gd bad := by
      have h := List.mem_of_getElem? hx
      simp only [List.mem_cons, List.not_mem_nil, or_false] at h
      rcases h with rfl | rfl | rfl | rfl | rfl | rfl | rfl | rfl | rfl | rfl <;> exact ⟨by decide +kernel, gd_of (by decide +kernel)⟩
    obtain ⟨hbad, gb⟩ := hbg
    refine q_asgS at0 n en (i := 2) (ty_cat (ty_var (x := due) rfl) (ty_lit (tl_cons (z__law_refused ty_i (ty_lit (tl_cons (ty_var (x := bad) rfl) (tl_cons ty_i.dat tl_nil)) (by simp)) ty_s (ty_var (x := bad) rfl) (ref_w2 (by decide) (by decide) hbad gb g0)) (tl_cons (z__law_refused ty_i (ty_lit (tl_cons (ty_var (x := bad) rfl) (tl_cons ty_n.datNon tl_nil)) (by simp)) ty_s (ty_var (x := bad) rfl) (ref_w2 (by decide) (by decide) hbad gb gn)) tl_nil)) (by simp)) (by show due.length + 2 ≤ 100000; rw [inv.len]; omega)) (by omega) fun due2 z' B' H' σ' e_due2 s n en => ?_
    have eb := eb.trans s.up
    refine q_forL at0 n en (cb := 0) (ty_lit (tl_cons (ty_var (x := ps) rfl).dat (tl_cons ty_n.datNon tl_nil)) (by simp)) (by omega) (fun k2 Γ B H => ∃ (due3 : (List Bool)) (o4 o5 : Option VP), Γ = [some (Py.is (wd : Int)), some (Py.is (ps : (List Int))), some (Py.is due3), some (Py.is (bad : Dat)), o4, o5] ∧ (AllT (12 * k + 2 + 5 * k2) due3)) (fun z' B' H' s en => ⟨due2, _, _, rfl, by rw [e_due2]; exact inv.app rfl⟩) (fun _ _ _ _ _ h _ => h) (fun Bs k2 other Γ' z' B' H' σ' hx inv eb n en => ?_) fun Γ' z' B' H' σ' inv eb2 n en => ?_
    · obtain ⟨due3, o4, o5, rfl, inv⟩ := inv
      have hkk2 : k2 < 2 := (List.getElem?_eq_some_iff.mp hx).1
      have go : Gd other := by
        have h := List.mem_of_getElem? hx
        simp only [List.mem_cons, List.not_mem_nil, or_false] at h
        rcases h with rfl | rfl
        · exact hp
        · exact gn
      refine q_catS at0 n en (i := 2) (ty_var (x := due3) rfl) (ty_lc1M (f := (fun door : Int => true)) ty_i (by omega) (by simp) fun door h0_door h1_door => (z__law_refused (ty_var (x := door) rfl) (ty_lit (tl_cons (ty_var (x := bad) rfl) (tl_cons (ty_var (x := other) rfl) (tl_cons ty_n.datNon tl_nil))) (by simp)) ty_s (ty_var (x := bad) rfl) (ref_w3 h0_door h1_door hbad gb go gn))) (by show due3.length + 4 ≤ 100000; rw [inv.len]; omega) (by omega) fun us_due4 l_due4 z' B' H' σ' hn_due4 n en nl_due4 n0_due4 ea_due4 s => ?_
      have gl_due4 := at0.ne n0_due4
      have eb := eb.trans s.up
      have hl_due4 : upd H' l_due4 (HO.lst us_due4) l_due4 = some (.lst us_due4) := upd_same
      refine q_appE at0 n en (k := 2) rfl hl_due4 nl_due4 n0_due4 (by rw [ea_due4.len]; exact Nat.lt_of_le_of_lt (Nat.le_of_eq (inv.app (show AllT 4 _ from rfl)).len) (by omega)) (z__law_refused ty_i (ty_lit (tl_cons (ty_var (x := bad) rfl) (tl_cons (ty_var (x := other) rfl) (tl_cons ty_n.datNon (tl_cons ty_n.datNon tl_nil)))) (by simp)) ty_s (ty_var (x := bad) rfl) (ref_w4 (by decide) (by decide) hbad gb go gn gn)) (by omega) fun y v_due4_y z' B' H' e_y hv_due4 up n en hl_due4 nl_due4 keep new => ?_
      have eb := eb.trans up
      have ea_due4 := (ea_due4.ex up).snoc hv_due4
      replace e_y := e_y.symm
      subst e_y
      have fr_due4 := n.freeze at0 hl_due4 nl_due4 n0_due4
      have eb := eb.trans fr_due4.2
      replace en := (en.up fr_due4.2).renew (k := 2) rfl (Py.stays ((due3 ++ ((rg1 (4 : Int)).map (fun door : Int => true))) ++ [true])) ⟨l_due4, (us_due4 ++ [v_due4_y]), rfl, upd_same, ea_due4.ex fr_due4.2⟩
      replace n := fr_due4.1
      exact ⟨_, z', _, ⟨((due3 ++ ((rg1 (4 : Int)).map (fun door : Int => true))) ++ [true]), _, _, rfl, ((inv.app (show AllT 4 _ from rfl)).app (show AllT 1 _ from rfl)).cast (by omega)⟩, eb, n.le (by omega), en⟩
    · obtain ⟨due3, o4, o5, rfl, inv⟩ := inv
      have eb := eb.trans eb2
      exact ⟨_, z', B', ⟨due3, _, _, _, rfl, inv.cast (by show 12 * k + 2 + 5 * 2 = _; omega)⟩, eb, n.le (by omega), en⟩
  · obtain ⟨due, o3, o4, o5, rfl, inv⟩ := inv
    refine q_ret at0 n en (ty_var (x := due) rfl) (by omega) fun x v z' B' H' e n h => q x v z' B' H' ?_ (n.le (by show _ ≤ 0; omega)) h
    exact e.trans inv
end
end K04
set_option maxHeartbeats 4000000
namespace K04
open PySem PySem.Spec PyProof.Rows L2 AP Evl
structure PlOk (wd : Int) (ps : List Int) : Prop where
  w : 1 ≤ wd ∧ wd ≤ 64
  ok : AscN wd 5 ps
theorem PlOk.sm {wd : Int} {ps : List Int} (h : PlOk wd ps) : ∀ x ∈ ps, x.natAbs < 2 ^ 65 := fun x hx => (h.ok.small h.w x hx).2
theorem PlOk.len {wd : Int} {ps : List Int} (h : PlOk wd ps) : ps.length ≤ 5 := by have := h.ok.2.1; omega
theorem PlOk.gd {wd : Int} {ps : List Int} (h : PlOk wd ps) : Gd (.lst (ps.map Dat.int)) := gd_ints (by have := h.len; omega) h.sm
theorem top_sm {wd : Int} (h : 1 ≤ wd ∧ wd ≤ 64) : ((2 : Int) ^ wd.toNat).natAbs < 2 ^ 65 := by
  rw [two_cast', Int.natAbs_natCast]
  exact Nat.pow_lt_pow_right (by decide) (by omega)
theorem pb_word {wd : Int} {ds : List Dat} {d : Dat} (hd : d ∈ ds) (h : Dat.word wd d = false) : placesB wd (.lst ds) = false := by
  show (ds.all (Dat.word wd) && _) = false
  rw [show ds.all (Dat.word wd) = false from List.all_eq_false.mpr ⟨d, hd, by rw [h]; decide⟩]
  rfl
theorem pb_climb {wd : Int} {l : List Int} (h : climbs l = false) : placesB wd (.lst (l.map Dat.int)) = false := by
  show ((l.map Dat.int).all (Dat.word wd) && (decide (0 < (l.map Dat.int).length) && climbs ((l.map Dat.int).map Dat.toI))) = false
  rw [List.map_map, show l.map (Dat.toI ∘ Dat.int) = l from List.map_id _, h]
  simp
theorem word_top {wd : Int} : Dat.word wd (.int (2 ^ wd.toNat)) = false := by
  rw [← word_lt]
  simp [Dat.toI]
theorem word_neg {wd : Int} : Dat.word wd (.int (0 - 1)) = false := by
  rw [← word_lt]
  simp [Dat.toI]
theorem climbs_twice (l : List Int) (a : Int) : climbs (l ++ [a, a]) = false := by
  unfold climbs
  refine List.all_eq_false.mpr ⟨l.length, List.mem_range.mpr (by simp), ?_⟩
  simp [List.getD_eq_getElem?_getD]
theorem climbs_turn {ps : List Int} (h : 0 < ps.length) : climbs (ps.reverse ++ [ps.getD 0 0]) = false := by
  cases ps with
  | nil => cases h
  | cons a r =>
    rw [List.reverse_cons, List.append_assoc]
    exact climbs_twice _ a
section
variable {G : Option Addr} {c0 c1 c2 c3 c4 c5 c6 c7 : Nat} {t0 t1 t2 t3 t4 t5 t6 t7 : TE} {Γ : AP.Ctx} {g : Addr}
def cPlaR : AP.Con (Int × (List Int)) (List Bool) := ⟨fun i => [Py.is i.1, Py.is i.2], fun i G => PlOk i.1 i.2, fun _ => 0, fun i r => r = List.replicate 98 true⟩
theorem z__law_places_refused {wd : Int} {ps : (List Int)} {E : XK} (h0 : AP.Ty G c0 t0 Γ (· = wd)) (h1 : AP.Ty G c1 t1 Γ (· = ps)) (hpre : PlOk wd ps) : AP.Ty G ((c0 + (c1 + 0)) + 0) (tCall cPlaR.sp [] E (tCons t0 (tCons t1 tNil))) Γ (· = List.replicate 98 true) := ty_call (C := cPlaR) (wd, ps) (ta_cons h0 (ta_cons h1 ta_nil)) hpre
end
section
variable {P : Program} {w : World} {K : PySem.W.Frag} {mg : Str → Option Value} {base : Heap}
abbrev s_law_places_refused : Stmt := topS 49
theorem sc_law_places_refused : FnScope ["_law_width", "_law_places_here", "_law_due", "_law_top", "_law_wrong", "_law_bad", "_law_door"] ["_law_width", "_law_places_here"] (defScope s_law_places_refused) := ⟨rfl, rfl, rfl, by decide +kernel, rfl, by decide +kernel, by decide +kernel⟩
theorem ok_law_places_refused {f : Addr} {fd : FuncData} (F : Df K "_law_places_refused" "_law_places_refused" s_law_places_refused [] f fd) (T : TN mg)  (F_law_power : Fo P w K mg base "_law_power" 1 ["_law_number", "_law_times"] cPower4.sp) (F_law_refused : FoG P w K mg base "_law_refused" 10 ["_law_door", "_law_args", "_law_name", "_law_field"] cRefused4.sp) :
    FnG P w K mg base CX0 12 f fd ["_law_width", "_law_places_here"] cPlaR.sp := by
  refine con_goG F sc_law_places_refused cPlaR (fun _ => rfl) fun cdv A outer s H E i G z0 B0 ng hr hp at0 hz => ⟨_, (pss_cons (ps_par (i := 2) (j := 3) rfl sc_law_places_refused.nd rfl rfl (by decide) rfl rfl (pa_cons (pe_lst pa_nil) (pa_cons (pe_fo F_law_power (hr.mono (by decide)) (by rfl) (pa_cons pe_int (pa_cons (pv 0) pa_nil))) pa_nil)) (by rfl))
     (pss_cons (ps_set (i := 4) sc_law_places_refused.nd rfl (.inl rfl) (pe_lst (pa_cons pe_non (pa_cons (pe_lst pa_nil) (pa_cons (pe_tup pa_nil) (pa_cons (pe_callTy (r := rTupOf K) call_tuple_of (by rfl) T.b_tuple (by decide +kernel) (pa_cons (pv 1) pa_nil)) (pa_cons (pe_lst (pa_cons (pv 3) pa_nil)) (pa_cons (pe_lst (pa_cons (pe_op op_sub pe_int pe_int) pa_nil)) (pa_cons (pe_lst (pa_cons pe_bl pa_nil)) (pa_cons (pe_lst (pa_cons pe_str pa_nil)) (pa_cons (pe_lst (pa_cons pe_int (pa_cons pe_int pa_nil))) (pa_cons (pe_lst (pa_cons pe_int (pa_cons pe_int pa_nil))) (pa_cons pe_dnewK (pa_cons pe_int (pa_cons (pe_lst (pa_cons pe_non pa_nil)) (pa_cons (pe_op op_cat (pv 1) (pe_lst (pa_cons (pv 3) pa_nil))) pa_nil))))))))))))))))
     (pss_cons (ps_for PassesOwn.never rfl (pi_listA (K := K) (pe_op op_cat (pv 4) (pe_lst (pa_cons (pe_op op_cat (pe_revS (pv 1) (pe_op op_sub pe_int pe_int)) (pe_lst (pa_cons (pe_ix (r := rIxL K) ix_list (pv 1) pe_int (fun _ _ => rfl)) pa_nil))) (pa_cons (pe_lst (pa_cons (pe_lst (pa_cons pe_int pa_nil)) pa_nil)) pa_nil))))) (pg_name (i := 5) sc_law_places_refused.nd rfl (.inr rfl))
      (pss_cons (ps_set (i := 2) sc_law_places_refused.nd rfl (.inl rfl) (pe_op op_cat (pv 2) (pe_lc (own := [("_law_door", 6)]) rfl sc_law_places_refused.nd (pi_range1 (by rfl) T.b_range (pa_cons pe_int pa_nil)) (blkOk_by (own := [("_law_door", 6)]) (N := ["_law_width", "_law_places_here", "_law_due", "_law_top", "_law_wrong", "_law_bad", "_law_door"]) (sc := defScope s_law_places_refused) (by decide +kernel)) (fun _ _ _ _ _ => (pg_name (i := 6) sc_law_places_refused.nd rfl (Or.inl rfl))) (fun _ _ _ _ _ => pts_nil) (fun _ _ _ _ _ => (pe_fog F_law_refused ng (hr.mono (by decide)) (by rfl) (pa_cons (pv 6) (pa_cons (pe_lst (pa_cons (pv 0) (pa_cons (pv 5) (pa_cons pe_non pa_nil)))) (pa_cons pe_str (pa_cons (pv 5) pa_nil)))))))))
     (pss_cons (ps_expr (pe_bm PySem.F.plainAttrs_list PySem.F.slot_list_append PySem.F.type_list_append mt_append (pv 2) (pa_cons (pe_fog F_law_refused ng (hr.mono (by decide)) (by rfl) (pa_cons pe_int (pa_cons (pe_lst (pa_cons (pv 0) (pa_cons (pe_lst (pa_cons pe_int pa_nil)) (pa_cons (pv 5) pa_nil)))) (pa_cons pe_str (pa_cons (pv 5) pa_nil))))) pa_nil)))
     (pss_one (ps_expr (pe_bm PySem.F.plainAttrs_list PySem.F.slot_list_append PySem.F.type_list_append mt_append (pv 2) (pa_cons (pe_fog F_law_refused ng (hr.mono (by decide)) (by rfl) (pa_cons pe_int (pa_cons (pe_lst (pa_cons (pv 0) (pa_cons (pv 5) (pa_cons pe_non (pa_cons pe_non pa_nil))))) (pa_cons pe_str (pa_cons (pv 5) pa_nil))))) pa_nil)))))))
     (pss_cons (ps_for PassesOwn.never rfl (pi_listA (K := K) (pe_lst (pa_cons pe_non (pa_cons (pe_tup (pa_cons pe_int pa_nil)) (pa_cons (pe_lst (pa_cons pe_bl pa_nil)) (pa_cons (pe_lst (pa_cons pe_str pa_nil)) (pa_cons (pe_lst (pa_cons pe_non pa_nil)) (pa_cons pe_dnewK (pa_cons pe_int (pa_cons (pe_lst (pa_cons pe_int (pa_cons (pe_lst (pa_cons pe_int pa_nil)) pa_nil))) (pa_cons (pe_lst (pa_cons pe_non (pa_cons pe_int pa_nil))) (pa_cons (pe_lst (pa_cons pe_bl (pa_cons pe_int pa_nil))) (pa_cons (pe_lst (pa_cons pe_int (pa_cons pe_str (pa_cons pe_int pa_nil)))) pa_nil))))))))))))) (pg_name (i := 5) sc_law_places_refused.nd rfl (.inr rfl))
      (pss_one (ps_set (i := 2) sc_law_places_refused.nd rfl (.inl rfl) (pe_op op_cat (pv 2) (pe_lc (own := [("_law_door", 6)]) rfl sc_law_places_refused.nd (pi_listA (K := K) (pe_lst (pa_cons pe_int (pa_cons pe_int pa_nil)))) (blkOk_by (own := [("_law_door", 6)]) (N := ["_law_width", "_law_places_here", "_law_due", "_law_top", "_law_wrong", "_law_bad", "_law_door"]) (sc := defScope s_law_places_refused) (by decide +kernel)) (fun _ _ _ _ _ => (pg_name (i := 6) sc_law_places_refused.nd rfl (Or.inl rfl))) (fun _ _ _ _ _ => pts_nil) (fun _ _ _ _ _ => (pe_fog F_law_refused ng (hr.mono (by decide)) (by rfl) (pa_cons (pv 6) (pa_cons (pe_lst (pa_cons (pv 0) (pa_cons (pv 5) (pa_cons pe_non pa_nil)))) (pa_cons pe_str (pa_cons (pv 5) pa_nil)))))))))))
     (pss_cons (ps_for PassesOwn.never rfl (pi_listA (K := K) (pe_lst (pa_cons pe_non (pa_cons pe_bl (pa_cons pe_str (pa_cons (pe_lst (pa_cons pe_int pa_nil)) (pa_cons (pe_tup (pa_cons pe_int pa_nil)) (pa_cons pe_dnewK pa_nil)))))))) (pg_name (i := 5) sc_law_places_refused.nd rfl (.inr rfl))
      (pss_one (ps_set (i := 2) sc_law_places_refused.nd rfl (.inl rfl) (pe_op op_cat (pv 2) (pe_lst (pa_cons (pe_fog F_law_refused ng (hr.mono (by decide)) (by rfl) (pa_cons pe_int (pa_cons (pe_lst (pa_cons (pv 0) (pa_cons (pe_lst (pa_cons pe_int pa_nil)) (pa_cons (pv 5) pa_nil)))) (pa_cons pe_str (pa_cons (pv 5) pa_nil))))) (pa_cons (pe_fog F_law_refused ng (hr.mono (by decide)) (by rfl) (pa_cons pe_int (pa_cons (pe_lst (pa_cons (pv 5) pa_nil)) (pa_cons pe_str (pa_cons (pv 5) pa_nil))))) pa_nil)))))))
     (pss_one (ps_ret (pv 2)))))))), fun σ Q en q => ?_⟩
  obtain ⟨wd, ps⟩ := i
  have hp : PlOk wd ps := hp
  have hz1 : z0 + (0 : Nat) ≤ 2 ^ 50 := hz
  have n := Nx.refl at0
  have hok := hp
  have gn : Gd .non := gd_of (by decide)
  have g1 : Gd (.lst [.int 1]) := gd_of (by decide +kernel)
  have k1 : wholesB (.lst [.int 1]) = true := by decide
  have sm := hok.sm
  have pl := hok.len
  have ts := top_sm hok.w
  have hw := hok.w
  have t14 : ∀ x ∈ ps ++ [2 ^ wd.toNat], x.natAbs < 2 ^ 65 := fun x hx => (List.mem_append.mp hx).elim (sm x) fun q => by rw [List.mem_singleton.mp q]; exact ts
  have pne : 0 < ps.length := hok.ok.1
  have t15 : ∀ x ∈ ps.reverse ++ [ps.getD 0 0], x.natAbs < 2 ^ 65 := fun x hx => (List.mem_append.mp hx).elim (fun q => sm x (List.mem_reverse.mp q)) fun q => by rw [List.mem_singleton.mp q, List.getD_eq_getElem?_getD, List.getElem?_eq_getElem pne]; exact sm _ (List.getElem_mem pne)
  refine q_par at0 n en (i := 2) (j := 3) (ty_nil (α := Bool)) (z__law_power ty_i (ty_var (x := wd) rfl) ⟨rfl, by omega, by omega⟩) (by omega) fun due top z' B' H' σ' e_due e_top s n en => ?_
  refine q_asgS at0 n en (i := 4) (ty_lit (tl_cons ty_n.datNon (tl_cons (ty_nil (α := Int)).dat (tl_cons ty_tupI0.dat (tl_cons (ty_tupI (ty_var (x := ps) rfl)).dat (tl_cons (ty_lit (tl_cons (ty_var (x := top) rfl) tl_nil) (by simp)).dat (tl_cons (ty_lit (tl_cons (ty_I0 (f := fun a b => a - b) ty_i ty_i) tl_nil) (by simp)).dat (tl_cons (ty_lit (tl_cons ty_b tl_nil) (by simp)).dat (tl_cons (ty_lit (tl_cons ty_s.datStr tl_nil) (by simp)).datLst (tl_cons (ty_lit (tl_cons ty_i (tl_cons ty_i tl_nil)) (by simp)).dat (tl_cons (ty_lit (tl_cons ty_i (tl_cons ty_i tl_nil)) (by simp)).dat (tl_cons ty_dnew (tl_cons ty_i.dat (tl_cons (ty_lit (tl_cons ty_n.datNon tl_nil) (by simp)).datLst (tl_cons (ty_cat (ty_var (x := ps) rfl) (ty_lit (tl_cons (ty_var (x := top) rfl) tl_nil) (by simp)) (by show ps.length + 1 ≤ 100000; omega)).dat tl_nil)))))))))))))) (by simp)) (by omega) fun wrong z' B' H' σ' e_wrong s n en => ?_
  refine q_forLS at0 n en (cb := 0) (ty_cat (ty_var (x := wrong) rfl) (ty_lit (tl_cons (ty_cat (ty_revS (ty_var (x := ps) rfl) (ty_I0 (f := fun a b => a - b) ty_i ty_i)) (ty_lit (tl_cons ((ty_ixD 0 (ty_var (x := ps) rfl) ty_i ⟨by decide, by simp <;> omega⟩).to (y := ps.getD 0 0) rfl) tl_nil) (by simp)) (by rw [List.length_reverse]; show ps.length + 1 ≤ 100000; omega)).dat (tl_cons (ty_lit (tl_cons (ty_lit (tl_cons ty_i tl_nil) (by simp)) tl_nil) (by simp)).dat tl_nil)) (by simp)) (by rw [e_wrong]; simp)) (by omega) (fun k Γ B H => ∃ (due : (List Bool)) (o5 o6 : Option VP), Γ = [some (Py.is (wd : Int)), some (Py.is (ps : (List Int))), some (Py.is due), some (Py.is (top : Int)), some (Py.is (wrong : (List Dat))), o5, o6] ∧ (AllT (4 * k) due)) (fun z' B' H' s en => ⟨due, _, _, rfl, e_due⟩) (fun _ _ _ _ _ h _ => h) (fun Bs k bad Γ' z' B' H' σ' hx inv eb n en => ?_) fun Γ' z' B' H' σ' inv eb2 n en => ?_
  · obtain ⟨due, o5, o6, rfl, inv⟩ := inv
    rw [e_wrong, e_top] at hx
    have hbg : placesB wd bad = false ∧ Gd bad := by
      have h := List.mem_of_getElem? hx
      simp only [List.mem_append, List.mem_cons, List.not_mem_nil, or_false] at h
      rcases h with (rfl | rfl | rfl | rfl | rfl | rfl | rfl | rfl | rfl | rfl | rfl | rfl | rfl | rfl) | rfl | rfl
      · exact ⟨rfl, gd_of (by decide +kernel)⟩
      · exact ⟨rfl, gd_of (by decide +kernel)⟩
      · exact ⟨rfl, gd_of (by decide +kernel)⟩
      · exact ⟨rfl, gd_tup (l := ps) (by omega) sm⟩
      · exact ⟨pb_word List.mem_cons_self word_top, gd_ints (l := [2 ^ wd.toNat]) (show 1 ≤ 40 by decide) (by intro x hx; rw [List.mem_singleton.mp hx]; exact ts)⟩
      · exact ⟨pb_word List.mem_cons_self word_neg, gd_of (by decide +kernel)⟩
      · exact ⟨rfl, gd_of (by decide +kernel)⟩
      · exact ⟨rfl, gd_of (by decide +kernel)⟩
      · exact ⟨pb_climb (l := [1, 0]) (by decide), gd_of (by decide +kernel)⟩
      · exact ⟨pb_climb (l := [0, 0]) (by decide), gd_of (by decide +kernel)⟩
      · exact ⟨rfl, gd_of (by decide +kernel)⟩
      · exact ⟨rfl, gd_of (by decide +kernel)⟩
      · exact ⟨rfl, gd_of (by decide +kernel)⟩
      · exact ⟨pb_word (d := .int (2 ^ wd.toNat)) (List.mem_map.mpr ⟨_, List.mem_append_right _ List.mem_cons_self, rfl⟩) word_top, gd_ints (by rw [List.length_append]; show ps.length + 1 ≤ 40; omega) t14⟩
      · exact ⟨pb_climb (climbs_turn hok.ok.1), gd_ints (by rw [List.length_append, List.length_reverse]; show ps.length + 1 ≤ 40; omega) t15⟩
      · exact ⟨rfl, gd_of (by decide +kernel)⟩
    obtain ⟨hbad, gb⟩ := hbg
    have hkk : k < 16 := (List.getElem?_eq_some_iff.mp hx).1
    refine q_catS at0 n en (i := 2) (ty_var (x := due) rfl) (ty_lc1M (f := (fun door : Int => true)) ty_i (by omega) (by simp) fun door h0_door h1_door => (z__law_refused (ty_var (x := door) rfl) (ty_lit (tl_cons (ty_var (x := wd) rfl).dat (tl_cons (ty_var (x := bad) rfl) (tl_cons ty_n.datNon tl_nil))) (by simp)) ty_s (ty_var (x := bad) rfl) (ref_p3 (by omega) hw hbad gb gn))) (by show due.length + 2 ≤ 100000; rw [inv.len]; omega) (by omega) fun us_due2 l_due2 z' B' H' σ' hn_due2 n en nl_due2 n0_due2 ea_due2 s => ?_
    have gl_due2 := at0.ne n0_due2
    have eb := eb.trans s.up
    have hl_due2 : upd H' l_due2 (HO.lst us_due2) l_due2 = some (.lst us_due2) := upd_same
    refine q_appS at0 n en (k := 2) rfl hl_due2 nl_due2 n0_due2 (by rw [ea_due2.len]; exact Nat.lt_of_le_of_lt (Nat.le_of_eq (inv.app (show AllT 2 _ from rfl)).len) (by omega)) (z__law_refused ty_i (ty_lit (tl_cons (ty_var (x := wd) rfl).dat (tl_cons (ty_lit (tl_cons ty_i tl_nil) (by simp)).dat (tl_cons (ty_var (x := bad) rfl) tl_nil))) (by simp)) ty_s (ty_var (x := bad) rfl) (ref_p3s hw k1 hbad g1 gb)) (by omega) fun y v_due2_y z' B' H' e_y hv_due2 up n en hl_due2 nl_due2 keep new => ?_
    have eb := eb.trans up
    have ea_due2 := (ea_due2.ex up).snoc hv_due2
    replace e_y := e_y.symm
    subst e_y
    refine q_appE at0 n en (k := 2) rfl hl_due2 nl_due2 n0_due2 (by rw [ea_due2.len]; exact Nat.lt_of_le_of_lt (Nat.le_of_eq ((inv.app (show AllT 2 _ from rfl)).app (show AllT 1 _ from rfl)).len) (by omega)) (z__law_refused ty_i (ty_lit (tl_cons (ty_var (x := wd) rfl).dat (tl_cons (ty_var (x := bad) rfl) (tl_cons ty_n.datNon (tl_cons ty_n.datNon tl_nil)))) (by simp)) ty_s (ty_var (x := bad) rfl) (ref_p4 (by decide) (by decide) hw hbad gb gn gn)) (by omega) fun y2 v_due2_y2 z' B' H' e_y2 hv_due2 up n en hl_due2 nl_due2 keep new => ?_
    have eb := eb.trans up
    have ea_due2 := (ea_due2.ex up).snoc hv_due2
    replace e_y2 := e_y2.symm
    subst e_y2
    have fr_due2 := n.freeze at0 hl_due2 nl_due2 n0_due2
    have eb := eb.trans fr_due2.2
    replace en := (en.up fr_due2.2).renew (k := 2) rfl (Py.stays (((due ++ ((rg1 (2 : Int)).map (fun door : Int => true))) ++ [true]) ++ [true])) ⟨l_due2, ((us_due2 ++ [v_due2_y]) ++ [v_due2_y2]), rfl, upd_same, ea_due2.ex fr_due2.2⟩
    replace n := fr_due2.1
    exact ⟨_, z', _, ⟨(((due ++ ((rg1 (2 : Int)).map (fun door : Int => true))) ++ [true]) ++ [true]), _, _, rfl, (((inv.app (show AllT 2 _ from rfl)).app (show AllT 1 _ from rfl)).app (show AllT 1 _ from rfl)).cast (by omega)⟩, eb, n.le (by omega), en⟩
  · obtain ⟨due, o5, o6, rfl, inv⟩ := inv
    refine q_forLS at0 n en (cb := 0) (ty_lit (tl_cons ty_n.datNon (tl_cons (ty_tupI1 ty_i).dat (tl_cons (ty_lit (tl_cons ty_b tl_nil) (by simp)).dat (tl_cons (ty_lit (tl_cons ty_s.datStr tl_nil) (by simp)).datLst (tl_cons (ty_lit (tl_cons ty_n.datNon tl_nil) (by simp)).datLst (tl_cons ty_dnew (tl_cons ty_i.dat (tl_cons (ty_lit (tl_cons ty_i.dat (tl_cons (ty_lit (tl_cons ty_i tl_nil) (by simp)).dat tl_nil)) (by simp)).datLst (tl_cons (ty_lit (tl_cons ty_n.datNon (tl_cons ty_i.dat tl_nil)) (by simp)).datLst (tl_cons (ty_lit (tl_cons ty_b.dat (tl_cons ty_i.dat tl_nil)) (by simp)).datLst (tl_cons (ty_lit (tl_cons ty_i.dat (tl_cons ty_s.datStr (tl_cons ty_i.dat tl_nil))) (by simp)).datLst tl_nil))))))))))) (by simp)) (by omega) (fun k2 Γ B H => ∃ (due2 : (List Bool)) (o5 o6 : Option VP), Γ = [some (Py.is (wd : Int)), some (Py.is (ps : (List Int))), some (Py.is due2), some (Py.is (top : Int)), some (Py.is (wrong : (List Dat))), o5, o6] ∧ (AllT (64 + 2 * k2) due2)) (fun z' B' H' s en => ⟨due, _, _, rfl, inv.cast (by rw [e_wrong]; rfl)⟩) (fun _ _ _ _ _ h _ => h) (fun Bs k2 bad2 Γ' z' B' H' σ' hx inv eb n en => ?_) fun Γ' z' B' H' σ' inv eb2 n en => ?_
    · obtain ⟨due2, o5, o6, rfl, inv⟩ := inv
      have hbg : wholesB bad2 = false ∧ Gd bad2 := by
        have h := List.mem_of_getElem? hx
        simp only [List.mem_append, List.mem_cons, List.not_mem_nil, or_false] at h
        rcases h with rfl | rfl | rfl | rfl | rfl | rfl | rfl | rfl | rfl | rfl | rfl <;> exact ⟨by decide +kernel, gd_of (by decide +kernel)⟩
      obtain ⟨hbad, gb⟩ := hbg
      have hkk : k2 < 11 := (List.getElem?_eq_some_iff.mp hx).1
      refine q_asg at0 n en (i := 2) (ty_cat (ty_var (x := due2) rfl) (ty_lcM (f := (fun door2 : Int => true)) (ty_lit (tl_cons ty_i (tl_cons ty_i tl_nil)) (by simp)) (by decide) (by simp) fun door2 h_door2 => (z__law_refused (ty_var (x := door2) rfl) (ty_lit (tl_cons (ty_var (x := wd) rfl).dat (tl_cons (ty_var (x := bad2) rfl) (tl_cons ty_n.datNon tl_nil))) (by simp)) ty_s (ty_var (x := bad2) rfl) (ref_k (by simpa using h_door2) hw hbad gb gn))) (by show due2.length + 2 ≤ 100000; rw [inv.len]; omega)) (by omega) fun due3 z' B' H' σ' e_due3 s n en => ?_
      have eb := eb.trans s.up
      exact ⟨_, z', B', ⟨due3, _, _, rfl, by rw [e_due3]; exact (inv.app (show AllT 2 _ from rfl)).cast (by omega)⟩, eb, n.le (by omega), en⟩
    · obtain ⟨due2, o5, o6, rfl, inv⟩ := inv
      refine q_forLS at0 n en (cb := 0) (ty_lit (tl_cons ty_n.datNon (tl_cons ty_b.dat (tl_cons ty_s.datStr (tl_cons (ty_lit (tl_cons ty_i tl_nil) (by simp)).dat (tl_cons (ty_tupI1 ty_i).dat (tl_cons ty_dnew tl_nil)))))) (by simp)) (by omega) (fun k3 Γ B H => ∃ (due3 : (List Bool)) (o5 o6 : Option VP), Γ = [some (Py.is (wd : Int)), some (Py.is (ps : (List Int))), some (Py.is due3), some (Py.is (top : Int)), some (Py.is (wrong : (List Dat))), o5, o6] ∧ (AllT (86 + 2 * k3) due3)) (fun z' B' H' s en => ⟨due2, _, _, rfl, inv.cast rfl⟩) (fun _ _ _ _ _ h _ => h) (fun Bs k3 bad3 Γ' z' B' H' σ' hx inv eb n en => ?_) fun Γ' z' B' H' σ' inv eb2 n en => ?_
      · obtain ⟨due3, o5, o6, rfl, inv⟩ := inv
        have hbg : bad3.whole = false ∧ Gd bad3 := by
          have h := List.mem_of_getElem? hx
          simp only [List.mem_append, List.mem_cons, List.not_mem_nil, or_false] at h
          rcases h with rfl | rfl | rfl | rfl | rfl | rfl <;> exact ⟨by decide +kernel, gd_of (by decide +kernel)⟩
        obtain ⟨hbad, gb⟩ := hbg
        have hkk : k3 < 6 := (List.getElem?_eq_some_iff.mp hx).1
        refine q_asg at0 n en (i := 2) (ty_cat (ty_var (x := due3) rfl) (ty_lit (tl_cons (z__law_refused ty_i (ty_lit (tl_cons (ty_var (x := wd) rfl).dat (tl_cons (ty_lit (tl_cons ty_i tl_nil) (by simp)).dat (tl_cons (ty_var (x := bad3) rfl) tl_nil))) (by simp)) ty_s (ty_var (x := bad3) rfl) (ref_n3 hw k1 hbad g1 gb)) (tl_cons (z__law_refused ty_i (ty_lit (tl_cons (ty_var (x := bad3) rfl) tl_nil) (by simp)) ty_s (ty_var (x := bad3) rfl) (ref_n1 (by decide) (by decide) hbad gb)) tl_nil)) (by simp)) (by show due3.length + 2 ≤ 100000; rw [inv.len]; omega)) (by omega) fun due4 z' B' H' σ' e_due4 s n en => ?_
        have eb := eb.trans s.up
        exact ⟨_, z', B', ⟨due4, _, _, rfl, by rw [e_due4]; exact (inv.app (show AllT 2 _ from rfl)).cast (by omega)⟩, eb, n.le (by omega), en⟩
      · obtain ⟨due3, o5, o6, rfl, inv⟩ := inv
        refine q_ret at0 n en (ty_var (x := due3) rfl) (by omega) fun x v z' B' H' e n h => q x v z' B' H' ?_ (n.le (by show _ ≤ 0; omega)) h
        exact e.trans inv
end
end K04
set_option maxHeartbeats 4000000
/-! A list literal that grows while other lists grow; ints told as data. -/
namespace AP
open PySem PySem.Spec PyProof.Rows L2 Evl
section
variable {K : PySem.W.Frag} {G : Option Addr} {c c0 c1 c2 : Nat} {te ta : TE} {tr : TA} {Γ : AP.Ctx} {α : Type} [Py α] {B H B0 H0 : Hp} {σ : L2.St} {z z0 : Int} {D : Ends} {tz : TS}
theorem q_litGS {A : List α → Prop} (s0 : At G z0 B0 H0) (n : Nx G c0 z0 B0 H0 z B H) (en : Slo B σ Γ) {i : Nat} (h : TyL G c tr Γ A) (small : ∀ xs, A xs → xs.length ≤ 100000) (hz : z0 + (c0 + c) ≤ 2 ^ 50)
    (k : ∀ xs us l z' B' H' σ', A xs → H' l = none → Nx G (c0 + c) z0 B0 H0 z' B' (upd H' l (.lst us)) → Slo B' σ' (Γ.set i (some (RefP l))) → B' l = none → H0 l = none → Each B' xs us → Nx G c z B H z' B' (upd H' l (.lst us)) → (∀ a o, G ≠ some a → H a = some o → a ≠ l) → tz D σ' (upd H' l (.lst us))) :
    tSeq (tAsg (tLst tr) (gName i)) tz D σ H := by
  refine h z B σ H en n.at_ (by have := n.hi; omega) _ fun xs vs z1 B1 H1 ax ea n1 => ⟨sz_of (by rw [ea.len]; exact small xs ax), fun l hl => ?_⟩
  have m := n1.trans n.at_ (Nx.more n1.at_ (Ex.new (o := .lst vs) hl))
  have nn := n.trans s0 m
  refine k xs vs l z1 B1 H1 _ ax hl (nn.le (by omega)) ((en.up n1.up).set RefP.stays rfl) ?_ ((n.trans s0 n1).gone s0 hl) ea (m.le (by omega)) (fun a o g ha e => by
    have q := n1.keep a o g ha
    rw [e, hl] at q
    cases q)
  cases e : B1 l with
  | none => rfl
  | some o => rw [n1.at_.ex _ _ e] at hl; cases hl
theorem Ty.intsD {ns : List Int} (h : Ty G c te Γ (· = ns)) : Ty G c te Γ (· = ns.map Dat.int) := h.cast fun v B q => ints_dats q
end
end AP
set_option maxHeartbeats 4000000
namespace K04
open PySem PySem.Spec PyProof.Rows L2 AP Evl
structure Gs (d : Dat) : Prop where
  rw_ : Rw 200 70 d
  dep : d.py.depth ≤ 10
def GsB (d : Dat) : Bool := d.py.showable && (d.py.leavesShort 200 && (decide (d.py.weight ≤ 70) && decide (d.py.depth ≤ 10)))
theorem gs_of {d : Dat} (h : GsB d = true) : Gs d := by
  unfold GsB at h
  simp only [Bool.and_eq_true, decide_eq_true_eq] at h
  exact ⟨⟨h.1, h.2.1, h.2.2.1⟩, h.2.2.2⟩
theorem gs_int {n : Int} (h : n.natAbs < 2 ^ 65) : Gs (.int n) := ⟨(rw_int (k := 65) h (by decide) (by decide) (by decide)).mono (by decide), Nat.zero_le _⟩
theorem gd_list {ds : List Dat} (hl : ds.length ≤ 40) (h : ∀ d ∈ ds, Gs d) : Gd (.lst ds) :=
  ⟨by show ds.length ≤ 30000; omega, (rw_lst (m := 40) (fun d hd => (h d hd).rw_) hl).mono (by decide), by
    show PyData.depthAll (pyAll ds) + 1 ≤ 50
    have := dep_all (n := 10) fun d hd => (h d hd).dep
    omega⟩
theorem wb_word {wd : Int} {n : Nat} {ds : List Dat} {d : Dat} (hd : d ∈ ds) (h : Dat.word wd d = false) : wordsAtB wd n (.lst ds) = false := by
  show (ds.all (Dat.word wd) && _) = false
  rw [show ds.all (Dat.word wd) = false from List.all_eq_false.mpr ⟨d, hd, by rw [h]; decide⟩]
  rfl
theorem wb_len {wd : Int} {n : Nat} {ds : List Dat} (h : ds.length ≠ n) : wordsAtB wd n (.lst ds) = false := by
  show (ds.all (Dat.word wd) && decide (ds.length = n)) = false
  rw [decide_eq_false h, Bool.and_false]
theorem wb_ok {wd : Int} {n : Nat} {ws : List Int} (hl : ws.length = n) (h : ∀ x ∈ ws, 0 ≤ x ∧ x < 2 ^ wd.toNat) : wordsAtB wd n (.lst (ws.map Dat.int)) = true := by
  show ((ws.map Dat.int).all (Dat.word wd) && decide ((ws.map Dat.int).length = n)) = true
  rw [List.length_map, decide_eq_true hl, Bool.and_true, List.all_map, List.all_eq_true]
  exact fun x hx => word_in (h x hx)
structure WrOk (wd : Int) (ps ws : List Int) : Prop where
  pl : PlOk wd ps
  len : ws.length = ps.length
  bd : ∀ x ∈ ws, 0 ≤ x ∧ x < 2 ^ wd.toNat
theorem WrOk.sm {wd : Int} {ps ws : List Int} (h : WrOk wd ps ws) : ∀ x ∈ ws, x.natAbs < 2 ^ 65 := fun x hx => by
  have h1 := h.bd x hx
  have h2 := top_sm h.pl.w
  omega
def BadW (wd : Int) (n : Nat) (b : Dat) : Prop := wordsAtB wd n b = false ∧ Gd b
theorem bad_odd {wd : Int} {n : Nat} {odd : Dat} {ws : List Int} (hw : Dat.word wd odd = false) (g : Gs odd) (l : ws.length ≤ 5) (sm : ∀ x ∈ ws, x.natAbs < 2 ^ 65) : BadW wd n (.lst ([odd] ++ (cutL ws (some 1) none).map Dat.int)) := by
  refine ⟨wb_word (List.mem_append_left _ List.mem_cons_self) hw, gd_list ?_ fun d hd => ?_⟩
  · rw [List.length_append, List.length_map]
    have := cutL_len ws (some 1) none
    show 1 + _ ≤ 40
    omega
  · rcases List.mem_append.mp hd with q | q
    · rw [List.mem_singleton.mp q]; exact g
    · obtain ⟨x, hx, rfl⟩ := List.mem_map.mp q
      rw [cutL_from (by decide)] at hx
      exact gs_int (sm x (List.mem_of_mem_drop hx))
theorem all_snoc {α : Type} {P : α → Prop} {l : List α} {a : α} (h : ∀ x ∈ l, P x) (ha : P a) : ∀ x ∈ l ++ [a], P x := fun x hx => by
  rcases List.mem_append.mp hx with q | q
  · exact h x q
  · rw [List.mem_singleton.mp q]; exact ha
theorem bad_start {wd : Int} {ps ws : List Int} (hok : WrOk wd ps ws) : ∀ b ∈ [Dat.non, DatOf.toD (TupI.mk ws), DatOf.toD (ws ++ [(0 : Int)]), DatOf.toD (cutL ws (some (1 : Int)) none), Dat.dic, Dat.int 0, Dat.lst (List.replicate (((ws.length : Nat) : Int)).toNat [Dat.non]).flatten], BadW wd ps.length b := by
  have sm := hok.sm
  have wl : ws.length ≤ 5 := by have := hok.len; have := hok.pl.len; omega
  have wp : 0 < ws.length := by have := hok.len; have := hok.pl.ok.1; omega
  intro b h
  simp only [List.mem_cons, List.not_mem_nil, or_false] at h
  rcases h with rfl | rfl | rfl | rfl | rfl | rfl | rfl
  · exact ⟨rfl, gd_of (by decide)⟩
  · exact ⟨rfl, gd_tup (l := ws) (by omega) sm⟩
  · exact ⟨wb_len (ds := (ws ++ [(0 : Int)]).map Dat.int) (by rw [List.length_map, List.length_append]; show ws.length + 1 ≠ _; have := hok.len; omega), gd_ints (l := ws ++ [0]) (by rw [List.length_append]; show ws.length + 1 ≤ 40; omega) (all_snoc sm (by decide))⟩
  · exact ⟨wb_len (ds := (cutL ws (some (1 : Int)) none).map Dat.int) (by rw [List.length_map, cutL_from (by decide), List.length_drop]; show ws.length - 1 ≠ _; have := hok.len; omega), gd_ints (l := cutL ws (some 1) none) (by have := cutL_len ws (some 1) none; omega) (fun x hx => by rw [cutL_from (by decide)] at hx; exact sm x (List.mem_of_mem_drop hx))⟩
  · exact ⟨rfl, gd_of (by decide)⟩
  · exact ⟨rfl, gd_of (by decide +kernel)⟩
  · have fl : ∀ n : Nat, (List.replicate n [Dat.non]).flatten = List.replicate n Dat.non := fun n => by
      induction n with
      | zero => rfl
      | succ n ih => rw [List.replicate_succ, List.flatten_cons, ih]; rfl
    rw [fl, Int.toNat_natCast]
    refine ⟨wb_word (d := .non) (List.mem_replicate.mpr ⟨by omega, rfl⟩) rfl, gd_list (by rw [List.length_replicate]; omega) fun d hd => ?_⟩
    rw [(List.mem_replicate.mp hd).2]
    exact gs_of (by decide)
section
variable {G : Option Addr} {c0 c1 c2 c3 c4 c5 c6 c7 : Nat} {t0 t1 t2 t3 t4 t5 t6 t7 : TE} {Γ : AP.Ctx} {g : Addr}
def cWorR : AP.Con (Int × (List Int) × (List Int)) (List Bool) := ⟨fun i => [Py.is i.1, Py.is i.2.1, Py.is i.2.2], fun i G => WrOk i.1 i.2.1 i.2.2, fun _ => 0, fun i r => r = List.replicate 36 true⟩
theorem z__law_words_refused {wd : Int} {ps : (List Int)} {ws : (List Int)} {E : XK} (h0 : AP.Ty G c0 t0 Γ (· = wd)) (h1 : AP.Ty G c1 t1 Γ (· = ps)) (h2 : AP.Ty G c2 t2 Γ (· = ws)) (hpre : WrOk wd ps ws) : AP.Ty G ((c0 + (c1 + (c2 + 0))) + 0) (tCall cWorR.sp [] E (tCons t0 (tCons t1 (tCons t2 tNil)))) Γ (· = List.replicate 36 true) := ty_call (C := cWorR) (wd, ps, ws) (ta_cons h0 (ta_cons h1 (ta_cons h2 ta_nil))) hpre
end
section
variable {P : Program} {w : World} {K : PySem.W.Frag} {mg : Str → Option Value} {base : Heap}
abbrev s_law_words_refused : Stmt := topS 50
theorem sc_law_words_refused : FnScope ["_law_width", "_law_places_here", "_law_words_here", "_law_due", "_law_top", "_law_wrong", "_law_odd", "_law_bad", "_law_other"] ["_law_width", "_law_places_here", "_law_words_here"] (defScope s_law_words_refused) := ⟨rfl, rfl, rfl, by decide +kernel, rfl, by decide +kernel, by decide +kernel⟩
theorem ok_law_words_refused {f : Addr} {fd : FuncData} (F : Df K "_law_words_refused" "_law_words_refused" s_law_words_refused [] f fd) (T : TN mg)  (F_law_power : Fo P w K mg base "_law_power" 1 ["_law_number", "_law_times"] cPower4.sp) (F_law_refused : FoG P w K mg base "_law_refused" 10 ["_law_door", "_law_args", "_law_name", "_law_field"] cRefused4.sp) :
    FnG P w K mg base CX0 12 f fd ["_law_width", "_law_places_here", "_law_words_here"] cWorR.sp := by
  refine con_goG F sc_law_words_refused cWorR (fun _ => rfl) fun cdv A outer s H E i G z0 B0 ng hr hp at0 hz => ⟨_, (pss_cons (ps_par (i := 3) (j := 4) rfl sc_law_words_refused.nd rfl rfl (by decide) rfl rfl (pa_cons (pe_lst pa_nil) (pa_cons (pe_fo F_law_power (hr.mono (by decide)) (by rfl) (pa_cons pe_int (pa_cons (pv 0) pa_nil))) pa_nil)) (by rfl))
     (pss_cons (ps_set (i := 5) sc_law_words_refused.nd rfl (.inl rfl) (pe_lst (pa_cons pe_non (pa_cons (pe_callTy (r := rTupOf K) call_tuple_of (by rfl) T.b_tuple (by decide +kernel) (pa_cons (pv 2) pa_nil)) (pa_cons (pe_op op_cat (pv 2) (pe_lst (pa_cons pe_int pa_nil))) (pa_cons (pe_slice (r := rSlL K) sl_list (pv 2) (po_some pe_int) po_none) (pa_cons pe_dnewK (pa_cons pe_int (pa_cons (pe_op op_rep (pe_lst (pa_cons pe_non pa_nil)) (pe_callB (r := rLenS K) call_len_seq (by rfl) T.b_len (by decide +kernel) (pa_cons (pv 2) pa_nil))) pa_nil)))))))))
     (pss_cons (ps_for PassesOwn.never rfl (pi_listA (K := K) (pe_lst (pa_cons (pv 4) (pa_cons (pe_op op_sub pe_int pe_int) (pa_cons pe_bl (pa_cons pe_str (pa_cons (pe_lst (pa_cons pe_int pa_nil)) pa_nil))))))) (pg_name (i := 6) sc_law_words_refused.nd rfl (.inl rfl))
      (pss_one (ps_expr (pe_bm PySem.F.plainAttrs_list PySem.F.slot_list_append PySem.F.type_list_append mt_append (pv 5) (pa_cons (pe_op op_cat (pe_lst (pa_cons (pv 6) pa_nil)) (pe_slice (r := rSlL K) sl_list (pv 2) (po_some pe_int) po_none)) pa_nil)))))
     (pss_cons (ps_for PassesOwn.never rfl (pi_listA (K := K) (pv 5)) (pg_name (i := 7) sc_law_words_refused.nd rfl (.inl rfl))
      (pss_cons (ps_for PassesOwn.never rfl (pi_listA (K := K) (pe_lst (pa_cons pe_non (pa_cons (pv 2) pa_nil)))) (pg_name (i := 8) sc_law_words_refused.nd rfl (.inl rfl))
      (pss_one (ps_expr (pe_bm PySem.F.plainAttrs_list PySem.F.slot_list_append PySem.F.type_list_append mt_append (pv 3) (pa_cons (pe_fog F_law_refused ng (hr.mono (by decide)) (by rfl) (pa_cons pe_int (pa_cons (pe_lst (pa_cons (pv 0) (pa_cons (pv 1) (pa_cons (pv 7) (pa_cons (pv 8) pa_nil))))) (pa_cons pe_str (pa_cons (pv 7) pa_nil))))) pa_nil)))))
     (pss_one (ps_expr (pe_bm PySem.F.plainAttrs_list PySem.F.slot_list_append PySem.F.type_list_append mt_append (pv 3) (pa_cons (pe_fog F_law_refused ng (hr.mono (by decide)) (by rfl) (pa_cons pe_int (pa_cons (pe_lst (pa_cons (pv 0) (pa_cons (pv 1) (pa_cons (pv 2) (pa_cons (pv 7) pa_nil))))) (pa_cons pe_str (pa_cons (pv 7) pa_nil))))) pa_nil))))))
     (pss_one (ps_ret (pv 3))))))), fun σ Q en q => ?_⟩
  obtain ⟨wd, ps, ws⟩ := i
  have hp : WrOk wd ps ws := hp
  have hz1 : z0 + (0 : Nat) ≤ 2 ^ 50 := hz
  have n := Nx.refl at0
  have hok := hp
  have hw := hok.pl.w
  have gn : Gd .non := gd_of (by decide)
  have sm := hok.sm
  have ts := top_sm hw
  have wl : ws.length ≤ 5 := by have := hok.len; have := hok.pl.len; omega
  have wp : 0 < ws.length := by have := hok.len; have := hok.pl.ok.1; omega
  have gw : Gd (.lst (ws.map Dat.int)) := gd_ints (by omega) sm
  have gp := hok.pl.gd
  have pB : placesB wd (.lst (ps.map Dat.int)) = true := (hok.pl.ok.places (by decide)).1
  have eN : (Dat.lst (ps.map Dat.int)).lenD = ps.length := List.length_map ..
  have cB : wordsAtB wd ps.length (.lst (ws.map Dat.int)) = true := wb_ok hok.len hok.bd
  have cB : wordsAtB wd (Dat.lst (ps.map Dat.int)).lenD (.lst (ws.map Dat.int)) = true := by rw [eN]; exact cB
  refine q_par2LX (i := 3) (j := 4) at0 n en tn_nil (z__law_power ty_i (ty_var (x := wd) rfl) ⟨rfl, by omega, by omega⟩) (by omega) fun due top l_due z' B' H' σ' e_due e_top  g_due s n en => ?_
  have hl_due := g_due.hl
  have nl_due := g_due.nl
  have n0_due := g_due.n0
  have gl_due := at0.ne n0_due
  replace e_due := e_due.symm
  subst e_due
  have ea_due := Each.nil (α := Bool) (B := B')
  have hl_due : H' l_due = some (.lst ([] : List V)) := hl_due
  refine q_litGS at0 n en (i := 5) (tl_cons ty_n.datNon (tl_cons (ty_tupI (ty_var (x := ws) rfl)).dat (tl_cons (ty_cat (ty_var (x := ws) rfl) (ty_lit (tl_cons ty_i tl_nil) (by simp)) (by show ws.length + 1 ≤ 100000; omega)).dat (tl_cons (ty_sl (ty_var (x := ws) rfl) (to_some ty_i) to_none).dat (tl_cons ty_dnew (tl_cons ty_i.datInt (tl_cons (ty_rep (ty_lit (tl_cons ty_n.datNon tl_nil) (by simp)) (ty_len (ty_var (x := ws) rfl)) ⟨by omega, by omega⟩ (by show 1 * ((ws.length : Nat) : Int).toNat ≤ 100000; omega)).datLst tl_nil))))))) (fun xs h => by subst h; simp) (by omega) fun xs us_wrong l_wrong z' B' H' σ' exs hn_wrong n en nl_wrong n0_wrong ea_wrong s nel => ?_
  have gl_wrong := at0.ne n0_wrong
  subst exs
  have l_due_wrong := nel _ _ gl_due hl_due
  have l_wrong_due := l_due_wrong.symm
  have ea_due := ea_due.ex s.up
  obtain ⟨hl_due, nl_due⟩ := s.keepL gl_due hl_due nl_due
  have hl_wrong : upd H' l_wrong (HO.lst us_wrong) l_wrong = some (.lst us_wrong) := upd_same
  refine q_forLS at0 n en (cb := 0) (ty_lit (tl_cons (ty_var (x := top) rfl).dat (tl_cons (ty_I0 (f := fun a b => a - b) ty_i ty_i).dat (tl_cons ty_b.dat (tl_cons ty_s.datStr (tl_cons (ty_lit (tl_cons ty_i tl_nil) (by simp)).dat tl_nil))))) (by simp)) (by omega) (fun k Γ B H => ∃ (xs_wrong : List Dat) (us_wrong : List V) (o6 o7 o8 : Option VP), Γ = [some (Py.is (wd : Int)), some (Py.is (ps : (List Int))), some (Py.is (ws : (List Int))), some (RefP l_due), some (Py.is (top : Int)), some (RefP l_wrong), o6, o7, o8] ∧ (Each B (([] : List Bool)) (([] : List V)) ∧ H l_due = some (.lst (([] : List V))) ∧ B l_due = none) ∧ (Each B (xs_wrong) (us_wrong) ∧ H l_wrong = some (.lst (us_wrong)) ∧ B l_wrong = none) ∧ (xs_wrong.length = 7 + k ∧ ∀ b ∈ xs_wrong, BadW wd ps.length b)) (fun z' B' H' s en => ⟨([Dat.non, (DatOf.toD (TupI.mk ws)), (DatOf.toD ((ws ++ [(0 : Int)]))), (DatOf.toD ((cutL ws (some (1 : Int)) none))), Dat.dic, (Dat.int (0 : Int)), (Dat.lst (List.replicate (((ws.length : Nat) : Int)).toNat ([Dat.non])).flatten)] : List Dat), us_wrong, _, _, _, rfl, ⟨ea_due.ex s.up, (s.keepL gl_due hl_due nl_due).1, (s.keepL gl_due hl_due nl_due).2⟩, ⟨ea_wrong.ex s.up, (s.keepL gl_wrong hl_wrong nl_wrong).1, (s.keepL gl_wrong hl_wrong nl_wrong).2⟩, ⟨rfl, bad_start hok⟩⟩) (fun _ _ _ _ _ ⟨x0, x1, x2, x3, x4, e, ⟨a0, b0, c0⟩, ⟨a1, b1, c1⟩, inv⟩ ex => ⟨x0, x1, x2, x3, x4, e, ⟨a0, ex _ _ b0, c0⟩, ⟨a1, ex _ _ b1, c1⟩, inv⟩) (fun Bs k odd Γ' z' B' H' σ' hx inv eb n en => ?_) fun Γ' z' B' H' σ' inv eb2 n en => ?_
  · obtain ⟨xs_wrong, us_wrong, o6, o7, o8, rfl, ⟨ea_due, hl_due, nl_due⟩, ⟨ea_wrong, hl_wrong, nl_wrong⟩, inv⟩ := inv
    obtain ⟨i1, i2⟩ := inv
    rw [e_top] at hx
    have hkk : k < 5 := (List.getElem?_eq_some_iff.mp hx).1
    have hod : Dat.word wd odd = false ∧ Gs odd := by
      have h := List.mem_of_getElem? hx
      simp only [List.mem_cons, List.not_mem_nil, or_false] at h
      rcases h with rfl | rfl | rfl | rfl | rfl
      · exact ⟨word_top, gs_int ts⟩
      · exact ⟨word_neg, gs_of (by decide +kernel)⟩
      · exact ⟨rfl, gs_of (by decide +kernel)⟩
      · exact ⟨rfl, gs_of (by decide +kernel)⟩
      · exact ⟨rfl, gs_of (by decide +kernel)⟩
    refine q_appE at0 n en (k := 5) rfl hl_wrong nl_wrong n0_wrong (by rw [ea_wrong.len, i1]; omega) (ty_cat (ty_lit (tl_cons (ty_var (x := odd) rfl) tl_nil) (by simp)) (ty_sl (ty_var (x := ws) rfl) (to_some ty_i) to_none).intsD (by rw [List.length_map]; have := cutL_len ws (some 1) none; show 1 + _ ≤ 100000; omega)).datLst (by omega) fun y v_wrong_y z' B' H' e_y hv_wrong up n en hl_wrong nl_wrong keep new => ?_
    have eb := eb.trans up
    have ea_wrong := (ea_wrong.ex up).snoc hv_wrong
    have ea_due := ea_due.ex up
    have nl_due := keep2 nl_due hl_due new
    have hl_due := keep _ _ gl_due l_due_wrong hl_due
    replace e_y := e_y.symm
    subst e_y
    exact ⟨_, z', B', ⟨(xs_wrong ++ [(Dat.lst ([odd] ++ (((cutL ws (some (1 : Int)) none)).map Dat.int)))]), (us_wrong ++ [v_wrong_y]), _, _, _, rfl, ⟨ea_due, hl_due, nl_due⟩, ⟨ea_wrong, hl_wrong, nl_wrong⟩, ⟨by rw [List.length_append, i1]; rfl, all_snoc i2 (bad_odd hod.1 hod.2 wl sm)⟩⟩, eb, n.le (by omega), en⟩
  · obtain ⟨xs_wrong, us_wrong, o6, o7, o8, rfl, ⟨ea_due, hl_due, nl_due⟩, ⟨ea_wrong, hl_wrong, nl_wrong⟩, inv⟩ := inv
    have inv0 : xs_wrong.length = 12 ∧ ∀ b ∈ xs_wrong, BadW wd ps.length b := inv
    have nl_due : upd _ l_wrong (HO.lst (us_wrong)) l_due = none := (upd_ne l_due_wrong).trans nl_due
    have fr_wrong := n.freeze at0 hl_wrong nl_wrong n0_wrong
    have ea_due := ea_due.ex fr_wrong.2
    replace en := (en.up fr_wrong.2).renew (k := 5) rfl (Py.stays xs_wrong) ⟨l_wrong, us_wrong, rfl, upd_same, ea_wrong.ex fr_wrong.2⟩
    replace n := fr_wrong.1
    refine q_forLS at0 n en (cb := 0) (ty_var (x := xs_wrong) rfl) (by omega) (fun k2 Γ B H => ∃ (xs_due : List Bool) (us_due : List V) (o6 o7 o8 : Option VP), Γ = [some (Py.is (wd : Int)), some (Py.is (ps : (List Int))), some (Py.is (ws : (List Int))), some (RefP l_due), some (Py.is (top : Int)), some (Py.is (xs_wrong : (List Dat))), o6, o7, o8] ∧ (Each B (xs_due) (us_due) ∧ H l_due = some (.lst (us_due)) ∧ B l_due = none) ∧ (AllT (3 * k2) xs_due)) (fun z' B' H' s en => ⟨([] : List Bool), ([] : List V), _, _, _, rfl, ⟨ea_due.ex s.up, (s.keepL gl_due hl_due nl_due).1, (s.keepL gl_due hl_due nl_due).2⟩, rfl⟩) (fun _ _ _ _ _ ⟨x0, x1, x2, x3, x4, e, ⟨a0, b0, c0⟩, inv⟩ ex => ⟨x0, x1, x2, x3, x4, e, ⟨a0, ex _ _ b0, c0⟩, inv⟩) (fun Bs k2 bad Γ' z' B' H' σ' hx inv eb n en => ?_) fun Γ' z' B' H' σ' inv eb2 n en => ?_
    · obtain ⟨xs_due, us_due, o6, o7, o8, rfl, ⟨ea_due, hl_due, nl_due⟩, inv⟩ := inv
      have hkk : k2 < 12 := by have := (List.getElem?_eq_some_iff.mp hx).1; rw [inv0.1] at this; omega
      obtain ⟨hbad, gb⟩ := inv0.2 bad (List.mem_of_getElem? hx)
      have hbad : wordsAtB wd (Dat.lst (ps.map Dat.int)).lenD bad = false := by rw [eN]; exact hbad
      refine q_forLS at0 n en (cb := 0) (ty_lit (tl_cons ty_n.datNon (tl_cons (ty_var (x := ws) rfl).dat tl_nil)) (by simp)) (by omega) (fun k3 Γ B H => ∃ (xs_due : List Bool) (us_due : List V) (o6 o8 : Option VP), Γ = [some (Py.is (wd : Int)), some (Py.is (ps : (List Int))), some (Py.is (ws : (List Int))), some (RefP l_due), some (Py.is (top : Int)), some (Py.is (xs_wrong : (List Dat))), o6, some (Py.is (bad : Dat)), o8] ∧ (Each B (xs_due) (us_due) ∧ H l_due = some (.lst (us_due)) ∧ B l_due = none) ∧ (AllT (3 * k2 + k3) xs_due)) (fun z' B' H' s en => ⟨xs_due, us_due, _, _, rfl, ⟨ea_due.ex s.up, (s.keepL gl_due hl_due nl_due).1, (s.keepL gl_due hl_due nl_due).2⟩, inv⟩) (fun _ _ _ _ _ ⟨x0, x1, x2, x3, e, ⟨a0, b0, c0⟩, inv⟩ ex => ⟨x0, x1, x2, x3, e, ⟨a0, ex _ _ b0, c0⟩, inv⟩) (fun Bs k3 other Γ' z' B' H' σ' hx inv eb n en => ?_) fun Γ' z' B' H' σ' inv eb2 n en => ?_
      · obtain ⟨xs_due, us_due, o6, o8, rfl, ⟨ea_due, hl_due, nl_due⟩, inv⟩ := inv
        have hkk3 : k3 < 2 := (List.getElem?_eq_some_iff.mp hx).1
        have go : Gd other := by
          have h := List.mem_of_getElem? hx
          simp only [List.mem_cons, List.not_mem_nil, or_false] at h
          rcases h with rfl | rfl
          · exact gn
          · exact gw
        refine q_appE at0 n en (k := 3) rfl hl_due nl_due n0_due (by rw [ea_due.len, inv.len]; omega) (z__law_refused ty_i (ty_lit (tl_cons (ty_var (x := wd) rfl).dat (tl_cons (ty_var (x := ps) rfl).dat (tl_cons (ty_var (x := bad) rfl) (tl_cons (ty_var (x := other) rfl) tl_nil)))) (by simp)) ty_s (ty_var (x := bad) rfl) (ref_v1 (by decide) (by decide) hw pB hbad gp gb go)) (by omega) fun y2 v_due_y2 z' B' H' e_y2 hv_due up n en hl_due nl_due keep new => ?_
        have eb := eb.trans up
        have ea_due := (ea_due.ex up).snoc hv_due
        replace e_y2 := e_y2.symm
        subst e_y2
        exact ⟨_, z', B', ⟨(xs_due ++ [true]), (us_due ++ [v_due_y2]), _, _, rfl, ⟨ea_due, hl_due, nl_due⟩, (inv.app (show AllT 1 _ from rfl)).cast (by omega)⟩, eb, n.le (by omega), en⟩
      · obtain ⟨xs_due, us_due, o6, o8, rfl, ⟨ea_due, hl_due, nl_due⟩, inv⟩ := inv
        have eb := eb.trans eb2
        have inv : AllT (3 * k2 + 2) xs_due := inv
        refine q_appE at0 n en (k := 3) rfl hl_due nl_due n0_due (by rw [ea_due.len, inv.len]; omega) (z__law_refused ty_i (ty_lit (tl_cons (ty_var (x := wd) rfl).dat (tl_cons (ty_var (x := ps) rfl).dat (tl_cons (ty_var (x := ws) rfl).dat (tl_cons (ty_var (x := bad) rfl) tl_nil)))) (by simp)) ty_s (ty_var (x := bad) rfl) (ref_v2 (by decide) (by decide) hw pB cB hbad gp gw gb)) (by omega) fun y3 v_due_y3 z' B' H' e_y3 hv_due up n en hl_due nl_due keep new => ?_
        have eb := eb.trans up
        have ea_due := (ea_due.ex up).snoc hv_due
        replace e_y3 := e_y3.symm
        subst e_y3
        exact ⟨_, z', B', ⟨(xs_due ++ [true]), (us_due ++ [v_due_y3]), _, _, _, rfl, ⟨ea_due, hl_due, nl_due⟩, (inv.app (show AllT 1 _ from rfl)).cast (by omega)⟩, eb, n.le (by omega), en⟩
    · obtain ⟨xs_due, us_due, o6, o7, o8, rfl, ⟨ea_due, hl_due, nl_due⟩, inv⟩ := inv
      have fr_due := n.freeze at0 hl_due nl_due n0_due
      replace en := (en.up fr_due.2).renew (k := 3) rfl (Py.stays xs_due) ⟨l_due, us_due, rfl, upd_same, ea_due.ex fr_due.2⟩
      replace n := fr_due.1
      refine q_ret at0 n en (ty_var (x := xs_due) rfl) (by omega) fun x v z' B' H' e n h => q x v z' B' H' ?_ (n.le (by show _ ≤ 0; omega)) h
      exact e.trans (inv.cast (by rw [inv0.1]))
end
end K04
set_option maxHeartbeats 0
namespace K04
open PySem PySem.Spec PyProof.Rows L2 AP Evl
/-! ### the law's own draws -/
abbrev s_hash : Stmt := topS 39
abbrev s_random : Stmt := topS 40
abbrev s_cell : Stmt := topS 41
abbrev s_generator : Stmt := topS 42
theorem sc_hash : FnScope ["_law_seed", "_law_index", "_law_mixed"] ["_law_seed", "_law_index"] (defScope s_hash) :=
  ⟨rfl, rfl, rfl, by decide +kernel, rfl, by decide +kernel, by decide +kernel⟩
theorem sc_random : FnScope ["_law_generator_here", "_law_bound", "_law_drawn", "_law_turn"] ["_law_generator_here", "_law_bound"] (defScope s_random) :=
  ⟨rfl, rfl, rfl, by decide +kernel, rfl, by decide +kernel, by decide +kernel⟩
theorem sc_cell : FnScope ["_law_script", "_law_index"] ["_law_script", "_law_index"] (defScope s_cell) :=
  ⟨rfl, rfl, rfl, by decide +kernel, rfl, by decide +kernel, by decide +kernel⟩
theorem sc_generator : FnScope ["_law_script", "_law_index", "_law_seed"] ["_law_script", "_law_index"] (defScope s_generator) :=
  ⟨rfl, rfl, rfl, by decide +kernel, rfl, by decide +kernel, by decide +kernel⟩
/-- the built-in names that the draws use -/
structure TB (mg : Str → Option Value) : Prop where
  int : mg "int" = none
  len : mg "len" = none
  sum : mg "sum" = none
  max : mg "max" = none
  range : mg "range" = none
section
variable {P : Program} {w : World} {K : PySem.W.Frag} {mg : Str → Option Value} {base : Heap}
theorem ok_hash {f : Addr} {fd : FuncData} (F : Df K "_law_hash" "_law_hash" s_hash [] f fd) (T : TB mg) :
    FnOk P w K mg base CX0 1 f fd ["_law_seed", "_law_index"] spHash := by
  refine F.go sc_hash (fun vs H Q E h => ?_) (fun cdv A outer s H vs Q E hr h => ?_)
  · obtain ⟨_, _, rfl, _⟩ := h
    rfl
  · obtain ⟨s0, i, rfl, h0, h1, q⟩ := h
    refine ⟨_, pss_cons (ps_set (i := 2) sc_hash.nd rfl (.inl rfl) (pe_op op_mod (pe_callTy call_int1 (by rfl) T.int (by decide +kernel) (pa_cons (pe_op op_add (pe_op op_add (pe_op op_add (pe_op op_mul (pv 0) pe_int) (pe_op op_mul (pe_op op_mul pe_int (pv 1)) (pv 1))) (pe_op op_mul pe_int (pv 1))) pe_int) pa_nil)) pe_int))
     (pss_cons (ps_set (i := 2) sc_hash.nd rfl (.inl rfl) (pe_op op_mod (pe_callTy call_int1 (by rfl) T.int (by decide +kernel) (pa_cons (pe_op op_add (pe_op op_add (pe_op op_mul (pv 2) (pv 2)) (pe_op op_mul pe_int (pv 1))) pe_int) pa_nil)) pe_int))
     (pss_one (ps_ret (pe_op op_mod (pe_callTy call_int1 (by rfl) T.int (by decide +kernel) (pa_cons (pe_op op_mul (pv 2) pe_int) pa_nil)) pe_int)))), ?_⟩
    refine ⟨_, rfl, _, _, rfl, rfl, .inr ⟨by decide, by decide⟩, _, rfl, _, _, rfl, rfl, .inl ⟨by decide, by decide⟩, _, rfl, _, _, rfl, rfl, .inr ⟨by omega, by omega⟩,
      _, _, rfl, rfl, _, rfl, _, _, rfl, rfl, .inl ⟨by decide, by decide⟩, _, _, rfl, rfl, _, _, rfl, rfl, .inl ⟨_, rfl, _, _, rfl, rfl, (by show (0 : Int) < 2147483629; decide), ?_⟩⟩
    obtain ⟨m, em, m0, m1⟩ := rest_of (s0 * 1140671 + 27644437 * i * i + 131 * i + 19) (n := 2147483629) (by decide)
    dsimp only
    rw [em]
    refine ⟨_, rfl, _, rfl, _, _, rfl, rfl, .inl ⟨by omega, by omega⟩, _, rfl, _, _, rfl, rfl, .inl ⟨by decide, by decide⟩, _, _, rfl, rfl, _, _, rfl, rfl,
      .inl ⟨_, rfl, _, _, rfl, rfl, (by show (0 : Int) < 2147483587; decide), ?_⟩⟩
    obtain ⟨m', em', m0', m1'⟩ := rest_of (m * m + 62089 * i + 32416187) (n := 2147483587) (by decide)
    dsimp only
    rw [em']
    refine ⟨_, rfl, _, _, rfl, rfl, .inr ⟨by decide, by decide⟩, .inl ⟨_, rfl, _, _, rfl, rfl, (by show (0 : Int) < 2147483647; decide), ?_⟩⟩
    obtain ⟨n, en, n0, n1⟩ := rest_of (m' * 48271) (n := 2147483647) (by decide)
    dsimp only
    rw [en]
    exact q n n0 (by omega)
theorem ok_random {f fh : Addr} {fd fdh : FuncData} (F : Df K "_law_random" "_law_random" s_random [] f fd) (T : TB mg)
    (FH : Df K "_law_hash" "_law_hash" s_hash [] fh fdh) (mH : mg "_law_hash" = some (.ref fh)) (bH : Binds K fdh ["_law_seed", "_law_index"] []) :
    FnOk P w K mg base CX0 2 f fd ["_law_generator_here", "_law_bound"] spRandom := by
  have GH : FnOk P w K mg base CX0 1 fh fdh ["_law_seed", "_law_index"] spHash := ok_hash FH T
  refine F.go sc_random (fun vs H Q E h => ?_) (fun cdv A outer s H vs Q E hr h => ?_)
  · obtain ⟨_, _, _, _, _, rfl, _⟩ := h
    rfl
  · obtain ⟨g, b, x, y, z, rfl, ⟨hg, hx, hy, hz, hz'⟩, hb, hb', q⟩ := h
    refine ⟨_, pss_cons (ps_if (pt_cmpR op_gt (pe_ix ix_list (pv 0) pe_int (fun _ _ => rfl)) pe_int (nomark _)) (pss_cons (ps_set (i := 2) sc_random.nd rfl (.inl rfl) (pe_op op_mod (pe_callTy call_int1 (by rfl) T.int (by decide +kernel) (pa_cons (pe_ix ix_list (pv 0) pe_int (fun _ _ => rfl)) pa_nil)) (pv 1)))
       (pss_cons (ps_asg (pe_op op_fdivW (pe_ix ix_list (pv 0) pe_int (fun _ _ => rfl)) (pv 1)) (pg_sub (pv 0) pe_int set_list))
       (pss_one (ps_ret (pv 2))))) pss_nil)
     (pss_cons (ps_set (i := 2) sc_random.nd rfl (.inl rfl) pe_int)
     (pss_cons (ps_for PassesOwn.never rfl (pi_range1 (by rfl) T.range (pa_cons (pe_op op_add pe_int (pe_op op_fdivW (pe_bits (pv 1)) pe_int)) pa_nil)) (pg_name (i := 3) sc_random.nd rfl (.inl rfl))
      (pss_cons (ps_asg (pe_op op_add (pe_ix ix_list (pv 0) pe_int (fun _ _ => rfl)) pe_int) (pg_sub (pv 0) pe_int set_list))
       (pss_one (ps_set (i := 2) sc_random.nd rfl (.inl rfl) (pe_op op_add (pe_op op_mul (pv 2) pe_int) (pe_call GH hr (by rfl) mH FH.kp bH .nil pass0 (pa_cons (pe_ix ix_list (pv 0) pe_int (fun _ _ => rfl)) (pa_cons (pe_ix ix_list (pv 0) pe_int (fun _ _ => rfl)) pa_nil))))))))
     (pss_one (ps_ret (pe_op op_mod (pe_callTy call_int1 (by rfl) T.int (by decide +kernel) (pa_cons (pv 2) pa_nil)) (pv 1)))))), ?_⟩
    have sq : SqL K H g [.int x, .int y, .int z] := SqL.of hg
    refine ⟨_, rfl, _, _, 0, _, rfl, rfl, sq, atI_nat (j := 0) rfl, _, _, rfl, rfl, _, rfl, ite2 (fun c => ?_) (fun c => ?_)⟩
    · -- digits of the seed
      have x0 : 0 < x := of_decide_eq_true c
      obtain ⟨r, er, r0, r1⟩ := rest_of x (n := b) hb
      have d0 : 0 ≤ x / b := Int.ediv_nonneg hx (by omega)
      have d1 : x / b ≤ x := Int.ediv_le_self _ hx
      refine ⟨_, rfl, _, _, 0, _, rfl, rfl, sq, atI_nat (j := 0) rfl, .inl ⟨_, rfl, _, rfl, _, _, rfl, rfl, hb, ?_⟩⟩
      dsimp only
      rw [er]
      refine ⟨_, rfl, _, _, 0, _, rfl, rfl, sq, atI_nat (j := 0) rfl, _, rfl, _, _, rfl, rfl, wide_div hb hb' (by decide) (by decide),
        _, rfl, g, _, 0, 0, rfl, rfl, hg, rfl, _, rfl, ?_⟩
      exact q r (x / b) z _ r0 r1 ⟨upd_same, d0, hy, hz, by omega⟩ (fun a ha => upd_ne ha) (by omega)
    · -- a hash for each thirty bits
      have nb : (Builtin.Int.intBits b : Int) ≤ 8999 := bits_small hb hb'
      refine ⟨_, rfl, _, rfl, _, _, rfl, rfl, wide_div (b := 9) (by decide) (by decide) (by decide) (by decide), _, _, rfl, rfl, _, rfl, by omega, by omega, ?_⟩
      have nt : (1 + (Builtin.Int.intBits b : Int) / 30).toNat ≤ 300 := by omega
      refine for_range (lo := 0) (n := (1 + (Builtin.Int.intBits b : Int) / 30).toNat) (fun j σ' H' => ∃ (dr z' : Int) (t : Option V), σ' = [some (.ref g), some (.int b), some (.int dr), t] ∧ 0 ≤ dr ∧
          (H' g = some (.lst [.int x, .int y, .int z']) ∧ z ≤ z' ∧ z' ≤ z + j) ∧ ∀ a, a ≠ g → H' a = H a)
        ⟨0, z, none, rfl, by decide, ⟨hg, by omega, by omega⟩, fun _ _ => rfl⟩ (fun j σ' H' hj hp => ?_) (fun σ' H' hp => ?_)
      · obtain ⟨dr, z', t, rfl, hdr, ⟨hg', hz1, hz2⟩, oth⟩ := hp
        have sq' : SqL K H' g [.int x, .int y, .int z'] := SqL.of hg'
        refine ⟨_, rfl, _, _, 2, _, rfl, rfl, sq', atI_nat (j := 2) rfl, _, _, rfl, rfl, _, rfl, g, _, 2, 2, rfl, rfl, hg', rfl, ?_⟩
        have hg2 : (upd H' g (.lst ([V.int x, V.int y, V.int z'].set 2 (V.int (z' + 1))))) g = some (.lst [.int x, .int y, .int (z' + 1)]) := upd_same
        have sq2 := SqL.of (K := K) hg2
        refine ⟨_, rfl, _, _, rfl, rfl, .inr ⟨by decide, by decide⟩, _, rfl, _, _, 1, _, rfl, rfl, sq2, atI_nat (j := 1) rfl, _, rfl, _, _, 2, _, rfl, rfl, sq2, atI_nat (j := 2) rfl,
          y, z' + 1, rfl, by omega, by omega, fun n n0 n1 => ⟨_, _, rfl, rfl, dr * 2147483587 + n, z' + 1, _, rfl, by omega, ⟨hg2, by omega, by omega⟩, fun a ha => ?_⟩⟩
        exact (upd_ne ha).trans (oth a ha)
      · obtain ⟨dr, z', t, rfl, hdr, ⟨hg', hz1, hz2⟩, oth⟩ := hp
        obtain ⟨r, er, r0, r1⟩ := rest_of dr (n := b) hb
        refine ⟨_, rfl, .inl ⟨_, rfl, _, rfl, _, _, rfl, rfl, hb, ?_⟩⟩
        dsimp only
        rw [er]
        exact q r x z' H' r0 r1 ⟨hg', hx, hy, by omega, by omega⟩ oth (by omega)
theorem ok_cell {f : Addr} {fd : FuncData} (F : Df K "_law_cell" "_law_cell" s_cell [] f fd) (T : TB mg) :
    FnOk P w K mg base CX0 1 f fd ["_law_script", "_law_index"] (spCellA K) := by
  refine F.go sc_cell (fun vs H Q E h => ?_) (fun cdv A outer s H vs Q E hr h => ?_)
  · obtain ⟨_, _, _, rfl, _⟩ := h
    rfl
  · obtain ⟨a, ns, i, rfl, hS, q⟩ := h
    refine ⟨_, pss_cons (ps_if (pt_cmpR op_lt (pv 1) (pe_callB call_len_seq (by rfl) T.len (by decide +kernel) (pa_cons (pv 0) pa_nil)) (nomark _)) (pss_one (ps_ret (pe_ix ix_list (pv 0) (pv 1) (fun _ _ => rfl)))) pss_nil)
     (pss_one (ps_ret (pe_op op_mod (pe_callB (cr_sum rfl) (by rfl) T.sum (by decide +kernel) (pa_cons (pe_slice sl_list (pv 0) po_none (po_some pe_int)) pa_nil)) pe_int))), ?_⟩
    refine ⟨_, rfl, _, rfl, _, _, rfl, .inl hS, _, _, rfl, rfl, _, rfl, ite2 (fun c => ?_) (fun c => ?_)⟩
    · have lt : i < ns.length := by
        have c' : (i : Int) < ((ns.map V.int).length : Nat) := of_decide_eq_true c
        rw [List.length_map] at c'
        omega
      have at_ : (ns.map V.int)[i]? = some (.int ns[i]) := by
        rw [List.getElem?_map, List.getElem?_eq_getElem lt] <;> rfl
      exact ⟨_, rfl, _, rfl, _, _, _, _, rfl, rfl, hS, atI_nat at_, q _ _ (Evl.Ex.refl H)⟩
    · refine ⟨_, rfl, _, rfl, a, _, rfl, hS, fun p np => ?_⟩
      obtain ⟨ms, em⟩ := cut_ints ns none (some 1)
      refine ⟨p, ms, rfl, SqL.of (by rw [← em]; exact upd_same), _, _, rfl, rfl, (by show (0 : Int) < 1000003; decide), ?_⟩
      exact q _ _ (Evl.Ex.new np)
theorem ok_generator {f fc : Addr} {fd fdc : FuncData} (F : Df K "_law_generator" "_law_generator" s_generator [] f fd) (T : TB mg)
    (FC : Df K "_law_cell" "_law_cell" s_cell [] fc fdc) (mC : mg "_law_cell" = some (.ref fc)) (bC : Binds K fdc ["_law_script", "_law_index"] []) :
    FnOk P w K mg base CX0 2 f fd ["_law_script", "_law_index"] (spGenerator K) := by
  have GC : FnOk P w K mg base CX0 1 fc fdc ["_law_script", "_law_index"] (spCellA K) := ok_cell FC T
  refine F.go sc_generator (fun vs H Q E h => ?_) (fun cdv A outer s H vs Q E hr h => ?_)
  · obtain ⟨_, _, _, rfl, _⟩ := h
    rfl
  · obtain ⟨a, ns, i, rfl, hS, hi, q⟩ := h
    refine ⟨_, pss_cons (ps_set (i := 2) sc_generator.nd rfl (.inl rfl) (pe_call GC hr (by rfl) mC FC.kp bC .nil pass0 (pa_cons (pv 0) (pa_cons (pv 1) pa_nil))))
     (pss_one (ps_ret (pe_lst (pa_cons (pe_op op_mod (pe_callTy call_int1 (by rfl) T.int (by decide +kernel) (pa_cons (pe_callB (call_max2 rfl) (by rfl) T.max (by decide +kernel) (pa_cons (pe_op op_sub (pv 2) (pe_op op_powW pe_int pe_int)) (pa_cons pe_int pa_nil))) pa_nil)) (pe_op op_powW (pe_op op_powW pe_int pe_int) pe_int)) (pa_cons (pe_op op_mod (pe_callTy call_int1 (by rfl) T.int (by decide +kernel) (pa_cons (pv 2) pa_nil)) pe_int) (pa_cons (pe_op op_mul pe_int (pv 1)) pa_nil)))))), ?_⟩
    refine ⟨_, rfl, _, rfl, a, ns, i, rfl, hS, fun c H1 e1 => ?_⟩
    refine ⟨_, rfl, _, _, rfl, rfl, pow_a, _, _, rfl, rfl, _, _, rfl, .inl ⟨_, rfl, _, _, rfl, rfl, pow_b, _, _, rfl, rfl, pow_c, _, _, rfl, rfl, pow_d,
      _, rfl, .inl ⟨_, rfl, _, _, rfl, rfl, (by show (0 : Int) < 2147483647; decide), _, rfl, _, _, rfl, rfl, .inl ⟨by decide, by decide⟩, by show 3 ≤ sizeLine; decide, fun p np => ?_⟩⟩⟩
    have y1 : c % 2147483647 < 2147483647 := Int.emod_lt_of_pos _ (by decide)
    exact q p _ (Evl.fresh_back e1 np) (e1.trans (Evl.Ex.new np)) ⟨_, c % 2147483647, 1000 * i, upd_same, Int.emod_nonneg _ (by have := pow_d; omega),
      ⟨Int.emod_nonneg _ (by decide), by omega⟩, by omega, by omega⟩
end
section
variable {P : Program} {w : World} {K : PySem.W.Frag} {mg : Str → Option Value} {base : Heap}
abbrev iniInvalidItems : Stmt := inClass (topS 6) 0
theorem sc_iniInvalidItems : FnScope ["self", "value"] ["self", "value"] (defScope iniInvalidItems) := ⟨rfl, rfl, rfl, by decide +kernel, rfl, by decide +kernel, by decide +kernel⟩
theorem ok_iniInvalidItems {f : Addr} {fd : FuncData} {C B : Addr} (F : Df K "__init__" "InvalidItems.__init__" iniInvalidItems [.non] f fd) (mB : mg "CodeError" = some (.ref B)) (base_ : BaseI K B) (e : OexC K C) (no : PySem.W.findIn K (.ref C) "value" = some none) :
    FnOk P w K mg base CX0 1 f fd ["self", "value"] (spErr C) := by
  refine F.go sc_iniInvalidItems (fun vs H Q E h => ?_) (fun cdv A outer s H vs Q E hr h => ?_)
  · obtain ⟨_, _, rfl, _⟩ := h
    rfl
  · obtain ⟨a, v, rfl, ha, q⟩ := h
    refine ⟨_, pss_cons (ps_expr (pe_ceinit (by rfl) mB base_ (pa_cons (pv 0) (pa_cons pe_str pa_nil)))) (pss_one (ps_ost (pv 0) (pv 1))), ?_⟩
    exact ⟨_, rfl, a, C, _, rfl, by show 1 ≤ 1000; decide, e, ha, _, rfl, _, rfl, a, C, rfl, e, no, .inl ⟨ha, fun d nd ne => q d nd ne⟩⟩
abbrev iniInvalidNumber : Stmt := inClass (topS 2) 0
theorem sc_iniInvalidNumber : FnScope ["self", "value"] ["self", "value"] (defScope iniInvalidNumber) := ⟨rfl, rfl, rfl, by decide +kernel, rfl, by decide +kernel, by decide +kernel⟩
theorem ok_iniInvalidNumber {f : Addr} {fd : FuncData} {C B : Addr} (F : Df K "__init__" "InvalidNumber.__init__" iniInvalidNumber [.non] f fd) (mB : mg "CodeError" = some (.ref B)) (base_ : BaseI K B) (e : OexC K C) (no : PySem.W.findIn K (.ref C) "value" = some none) :
    FnOk P w K mg base CX0 1 f fd ["self", "value"] (spErr C) := by
  refine F.go sc_iniInvalidNumber (fun vs H Q E h => ?_) (fun cdv A outer s H vs Q E hr h => ?_)
  · obtain ⟨_, _, rfl, _⟩ := h
    rfl
  · obtain ⟨a, v, rfl, ha, q⟩ := h
    refine ⟨_, pss_cons (ps_expr (pe_ceinit (by rfl) mB base_ (pa_cons (pv 0) (pa_cons pe_str pa_nil)))) (pss_one (ps_ost (pv 0) (pv 1))), ?_⟩
    exact ⟨_, rfl, a, C, _, rfl, by show 1 ≤ 1000; decide, e, ha, _, rfl, _, rfl, a, C, rfl, e, no, .inl ⟨ha, fun d nd ne => q d nd ne⟩⟩
abbrev iniInvalidPlaces : Stmt := inClass (topS 5) 0
theorem sc_iniInvalidPlaces : FnScope ["self", "value"] ["self", "value"] (defScope iniInvalidPlaces) := ⟨rfl, rfl, rfl, by decide +kernel, rfl, by decide +kernel, by decide +kernel⟩
theorem ok_iniInvalidPlaces {f : Addr} {fd : FuncData} {C B : Addr} (F : Df K "__init__" "InvalidPlaces.__init__" iniInvalidPlaces [.non] f fd) (mB : mg "CodeError" = some (.ref B)) (base_ : BaseI K B) (e : OexC K C) (no : PySem.W.findIn K (.ref C) "value" = some none) :
    FnOk P w K mg base CX0 1 f fd ["self", "value"] (spErr C) := by
  refine F.go sc_iniInvalidPlaces (fun vs H Q E h => ?_) (fun cdv A outer s H vs Q E hr h => ?_)
  · obtain ⟨_, _, rfl, _⟩ := h
    rfl
  · obtain ⟨a, v, rfl, ha, q⟩ := h
    refine ⟨_, pss_cons (ps_expr (pe_ceinit (by rfl) mB base_ (pa_cons (pv 0) (pa_cons pe_str pa_nil)))) (pss_one (ps_ost (pv 0) (pv 1))), ?_⟩
    exact ⟨_, rfl, a, C, _, rfl, by show 1 ≤ 1000; decide, e, ha, _, rfl, _, rfl, a, C, rfl, e, no, .inl ⟨ha, fun d nd ne => q d nd ne⟩⟩
abbrev iniInvalidWidth : Stmt := inClass (topS 3) 0
theorem sc_iniInvalidWidth : FnScope ["self", "value"] ["self", "value"] (defScope iniInvalidWidth) := ⟨rfl, rfl, rfl, by decide +kernel, rfl, by decide +kernel, by decide +kernel⟩
theorem ok_iniInvalidWidth {f : Addr} {fd : FuncData} {C B : Addr} (F : Df K "__init__" "InvalidWidth.__init__" iniInvalidWidth [.non] f fd) (mB : mg "CodeError" = some (.ref B)) (base_ : BaseI K B) (e : OexC K C) (no : PySem.W.findIn K (.ref C) "value" = some none) :
    FnOk P w K mg base CX0 1 f fd ["self", "value"] (spErr C) := by
  refine F.go sc_iniInvalidWidth (fun vs H Q E h => ?_) (fun cdv A outer s H vs Q E hr h => ?_)
  · obtain ⟨_, _, rfl, _⟩ := h
    rfl
  · obtain ⟨a, v, rfl, ha, q⟩ := h
    refine ⟨_, pss_cons (ps_expr (pe_ceinit (by rfl) mB base_ (pa_cons (pv 0) (pa_cons pe_str pa_nil)))) (pss_one (ps_ost (pv 0) (pv 1))), ?_⟩
    exact ⟨_, rfl, a, C, _, rfl, by show 1 ≤ 1000; decide, e, ha, _, rfl, _, rfl, a, C, rfl, e, no, .inl ⟨ha, fun d nd ne => q d nd ne⟩⟩
abbrev iniInvalidWords : Stmt := inClass (topS 4) 0
theorem sc_iniInvalidWords : FnScope ["self", "value"] ["self", "value"] (defScope iniInvalidWords) := ⟨rfl, rfl, rfl, by decide +kernel, rfl, by decide +kernel, by decide +kernel⟩
theorem ok_iniInvalidWords {f : Addr} {fd : FuncData} {C B : Addr} (F : Df K "__init__" "InvalidWords.__init__" iniInvalidWords [.non] f fd) (mB : mg "CodeError" = some (.ref B)) (base_ : BaseI K B) (e : OexC K C) (no : PySem.W.findIn K (.ref C) "value" = some none) :
    FnOk P w K mg base CX0 1 f fd ["self", "value"] (spErr C) := by
  refine F.go sc_iniInvalidWords (fun vs H Q E h => ?_) (fun cdv A outer s H vs Q E hr h => ?_)
  · obtain ⟨_, _, rfl, _⟩ := h
    rfl
  · obtain ⟨a, v, rfl, ha, q⟩ := h
    refine ⟨_, pss_cons (ps_expr (pe_ceinit (by rfl) mB base_ (pa_cons (pv 0) (pa_cons pe_str pa_nil)))) (pss_one (ps_ost (pv 0) (pv 1))), ?_⟩
    exact ⟨_, rfl, a, C, _, rfl, by show 1 ≤ 1000; decide, e, ha, _, rfl, _, rfl, a, C, rfl, e, no, .inl ⟨ha, fun d nd ne => q d nd ne⟩⟩
end
theorem due_end {b1 b2 b3 : Bool} (h1 : b1 = true) (h2 : b2 = true) (h3 : b3 = true) : ((((((List.replicate 120 true ++ List.replicate 98 true) ++ List.replicate 36 true) ++ [b1]) ++ [b2, b3]).filter fun item : Bool => !decide (item = true)).map fun item : Bool => item).isEmpty = true := by
  subst h1 h2 h3
  decide +kernel
section
variable {G : Option Addr} {c0 c1 c2 c3 c4 c5 c6 c7 : Nat} {t0 t1 t2 t3 t4 t5 t6 t7 : TE} {Γ : AP.Ctx} {g : Addr}
theorem z_is_words {wd : Int} {ps : (List Int)} {d : Dat} {E : XK} (h0 : AP.Ty G c0 t0 Γ (· = wd)) (h1 : AP.Ty G c1 t1 Γ (· = ps)) (h2 : AP.Ty G c2 t2 Γ (· = d)) (hpre : wOk wd ∧ Places wd ps ∧ d.small) : AP.Ty G ((c0 + (c1 + (c2 + 0))) + 0) (tCall cIsWords.sp [] E (tCons t0 (tCons t1 (tCons t2 tNil)))) Γ (· = wordsAtB wd ps.length d) := ty_call (C := cIsWords) (wd, ps, d) (ta_cons h0 (ta_cons h1 (ta_cons h2 ta_nil))) hpre
theorem z_is_known {wd : Int} {ps : (List Int)} {d : Dat} {E : XK} (h0 : AP.Ty G c0 t0 Γ (· = wd)) (h1 : AP.Ty G c1 t1 Γ (· = ps)) (h2 : AP.Ty G c2 t2 Γ (· = d)) (hpre : wOk wd ∧ Places wd ps ∧ d.small) : AP.Ty G ((c0 + (c1 + (c2 + 0))) + 0) (tCall cIsKnown.sp [] E (tCons t0 (tCons t1 (tCons t2 tNil)))) Γ (· = knownB wd ps d) := ty_call (C := cIsKnown) (wd, ps, d) (ta_cons h0 (ta_cons h1 (ta_cons h2 ta_nil))) hpre
theorem z_is_word {wd : Int} {d : Dat} {E : XK} (h0 : AP.Ty G c0 t0 Γ (· = wd)) (h1 : AP.Ty G c1 t1 Γ (· = d)) (hpre : wOk wd) : AP.Ty G ((c0 + (c1 + 0)) + 0) (tCall cIsWord.sp [] E (tCons t0 (tCons t1 tNil))) Γ (· = d.word wd) := ty_call (C := cIsWord) (wd, d) (ta_cons h0 (ta_cons h1 ta_nil)) hpre
end
section
variable {P : Program} {w : World} {K : PySem.W.Frag} {mg : Str → Option Value} {base : Heap}
abbrev slaw : Stmt := topS 51
theorem sclaw : FnScope ["_law_script", "_law_generator_here", "_law_width", "_law_places_here", "_law_words_here", "_law_due", "_law_item"] ["_law_script"] (defScope slaw) := ⟨rfl, rfl, rfl, by decide +kernel, rfl, by decide +kernel, by decide +kernel⟩
theorem ok_law {f : Addr} {fd : FuncData} (F : Df K "law" "law" slaw [] f fd) (T : TN mg) (F_law_generator : Fo P w K mg base "_law_generator" 2 ["_law_script", "_law_index"] (spGenerator K)) (F_law_random : Fo P w K mg base "_law_random" 2 ["_law_generator_here", "_law_bound"] cRandom.sp) (F_law_places : Fo P w K mg base "_law_places" 3 ["_law_generator_here", "_law_width", "_law_most"] cPlaces4.sp) (F_law_words : Fo P w K mg base "_law_words" 3 ["_law_generator_here", "_law_width", "_law_many"] cWords4.sp) (F_law_widths_refused : FoG P w K mg base "_law_widths_refused" 12 ["_law_width", "_law_places_here"] cWidR.sp) (F_law_places_refused : FoG P w K mg base "_law_places_refused" 12 ["_law_width", "_law_places_here"] cPlaR.sp) (F_law_words_refused : FoG P w K mg base "_law_words_refused" 12 ["_law_width", "_law_places_here", "_law_words_here"] cWorR.sp) (Fis_words : Fo P w K mg base "is_words" 7 ["width", "places", "value"] cIsWords.sp) (Fis_known : Fo P w K mg base "is_known" 7 ["width", "places", "value"] cIsKnown.sp) (Fis_word : Fo P w K mg base "is_word" 5 ["width", "value"] cIsWord.sp) :
    FnG P w K mg base CX0 13 f fd ["_law_script"] (spLaw K) := by
  refine F.goG sclaw (fun vs H Q E h => ?_) (fun cdv A outer s H vs Q E ng hr h => ?_)
  · obtain ⟨_, _, rfl, _⟩ := h
    rfl
  · obtain ⟨a, ns, rfl, hS, q⟩ := h
    refine ⟨_, (pss_cons (ps_set (i := 1) sclaw.nd rfl (.inl rfl) (pe_fo F_law_generator (hr.mono (by decide)) (by rfl) (pa_cons (pv 0) (pa_cons pe_int pa_nil))))
     (pss_cons (ps_set (i := 2) sclaw.nd rfl (.inl rfl) (pe_op op_add pe_int (pe_fo F_law_random (hr.mono (by decide)) (by rfl) (pa_cons (pv 1) (pa_cons pe_int pa_nil)))))
     (pss_cons (ps_set (i := 3) sclaw.nd rfl (.inl rfl) (pe_fo F_law_places (hr.mono (by decide)) (by rfl) (pa_cons (pv 1) (pa_cons (pv 2) (pa_cons pe_int pa_nil)))))
     (pss_cons (ps_set (i := 4) sclaw.nd rfl (.inl rfl) (pe_fo F_law_words (hr.mono (by decide)) (by rfl) (pa_cons (pv 1) (pa_cons (pv 2) (pa_cons (pe_callB (r := rLenS K) call_len_seq (by rfl) T.b_len (by decide +kernel) (pa_cons (pv 3) pa_nil)) pa_nil)))))
     (pss_cons (ps_set (i := 5) sclaw.nd rfl (.inl rfl) (pe_op op_cat (pe_fog F_law_widths_refused ng (hr.mono (by decide)) (by rfl) (pa_cons (pv 2) (pa_cons (pv 3) pa_nil))) (pe_fog F_law_places_refused ng (hr.mono (by decide)) (by rfl) (pa_cons (pv 2) (pa_cons (pv 3) pa_nil)))))
     (pss_cons (ps_set (i := 5) sclaw.nd rfl (.inl rfl) (pe_op op_cat (pe_op op_cat (pv 5) (pe_fog F_law_words_refused ng (hr.mono (by decide)) (by rfl) (pa_cons (pv 2) (pa_cons (pv 3) (pa_cons (pv 4) pa_nil))))) (pe_lst (pa_cons (pe_cmpR op_isBl (pe_fo Fis_words (hr.mono (by decide)) (by rfl) (pa_cons (pv 2) (pa_cons (pv 3) (pa_cons pe_non pa_nil)))) pe_bl (nomark _)) pa_nil))))
     (pss_cons (ps_set (i := 5) sclaw.nd rfl (.inl rfl) (pe_op op_cat (pv 5) (pe_lst (pa_cons (pe_cmpR op_isBl (pe_fo Fis_known (hr.mono (by decide)) (by rfl) (pa_cons (pv 2) (pa_cons (pv 3) (pa_cons pe_non pa_nil)))) pe_bl (nomark _)) (pa_cons (pe_cmpR op_isBl (pe_fo Fis_word (hr.mono (by decide)) (by rfl) (pa_cons (pv 2) (pa_cons pe_non pa_nil))) pe_bl (nomark _)) pa_nil)))))
     (pss_one (ps_ret (pe_cmpR (r := rEqNil K) (op_eqNil hr.units0) (pe_lc (own := [("_law_item", 6)]) rfl sclaw.nd (pi_listA (K := K) (pv 5)) (blkOk_by (own := [("_law_item", 6)]) (N := ["_law_script", "_law_generator_here", "_law_width", "_law_places_here", "_law_words_here", "_law_due", "_law_item"]) (sc := defScope slaw) (by decide +kernel)) (fun _ _ _ _ _ => (pg_name (i := 6) sclaw.nd rfl (Or.inl rfl))) (fun _ _ _ _ _ => (pts_one (pt_cmpR op_notBl (pv 6) pe_bl (nomark _)))) (fun _ _ _ _ _ => (pv 6))) (pe_lst pa_nil) (nomark _))))))))))), ?_⟩
    have at0 : At none 0 H H := at_none
    have n := Nx.refl at0
    have en := slo_law (N := ["_law_script", "_law_generator_here", "_law_width", "_law_places_here", "_law_words_here", "_law_due", "_law_item"]) hS
    refine q_genC (k := 0) (m := 1) (i := 0) at0 n en rfl (by omega) fun p z1 H1 σ1 at1 z1a z1b back en => ?_
    have n := Nx.refl at1
    refine q_asgS at1 n en (i := 2) (ty_I0N (f := fun a b => a + b) ty_i (z__law_random (ty_var (x := GenR.mk p) rfl) ty_i (small_b (by decide) (by decide)))) (by omega) fun width z' B' H' σ' e_width s n en => ?_
    have hw8 : 1 ≤ width ∧ width ≤ 8 := by
      obtain ⟨i, j, e1, hj, e2⟩ := e_width
      have e1 : i = 1 := e1
      have hj : 0 ≤ j ∧ j < 8 := hj
      have e2 : width = i + j := e2
      omega
    refine q_asgS at1 n en (i := 3) (z__law_places (ty_var (x := GenR.mk p) rfl) (ty_var (x := width) rfl) ty_i ⟨by omega, by omega, by decide, by decide⟩) (by omega) fun places z' B' H' σ' e_places s n en => ?_
    have pok : PlOk width places := ⟨⟨by omega, by omega⟩, e_places⟩
    have plen := pok.len
    refine q_asgS at1 n en (i := 4) (z__law_words (ty_var (x := GenR.mk p) rfl) (ty_var (x := width) rfl) (ty_len (ty_var (x := places) rfl)) ⟨by omega, by omega, by omega, by omega⟩) (by omega) fun words z' B' H' σ' e_words s n en => ?_
    have wok : WrOk width places words := ⟨pok, by have := e_words.1; omega, e_words.2⟩
    refine q_asgS at1 n en (i := 5) (ty_cat (z__law_widths_refused (ty_var (x := width) rfl) (ty_var (x := places) rfl) pok.gd) (z__law_places_refused (ty_var (x := width) rfl) (ty_var (x := places) rfl) pok) (by rw [List.length_replicate, List.length_replicate]; decide)) (by omega) fun due z' B' H' σ' e_due s n en => ?_
    refine q_asgS at1 n en (i := 5) (ty_cat (ty_cat (ty_var (x := due) rfl) (z__law_words_refused (ty_var (x := width) rfl) (ty_var (x := places) rfl) (ty_var (x := words) rfl) wok) (by rw [e_due]; simp)) (ty_lit (tl_cons (ty_isB (z_is_words (ty_var (x := width) rfl) (ty_var (x := places) rfl) ty_n.datNon ⟨⟨by omega, by omega⟩, pok.ok.places (by decide), trivial⟩) ty_b) tl_nil) (by simp)) (by rw [e_due]; simp)) (by omega) fun due2 z' B' H' σ' e_due2 s n en => ?_
    refine q_asgS at1 n en (i := 5) (ty_cat (ty_var (x := due2) rfl) (ty_lit (tl_cons (ty_isB (z_is_known (ty_var (x := width) rfl) (ty_var (x := places) rfl) ty_n.datNon ⟨⟨by omega, by omega⟩, pok.ok.places (by decide), trivial⟩) ty_b) (tl_cons (ty_isB (z_is_word (ty_var (x := width) rfl) ty_n.datNon ⟨by omega, by omega⟩) ty_b) tl_nil)) (by simp)) (by rw [e_due2, e_due]; simp)) (by omega) fun due3 z' B' H' σ' e_due3 s n en => ?_
    refine q_ret at1 n en (ty_eqNil (ty_lcL (p := fun item : Bool => (!decide (item = true))) (f := (fun item : Bool => item)) (ty_var (x := due3) rfl) (by rw [e_due3, e_due2, e_due]; simp) (by simp) (fun item h_item => (tt_test (ty_notB (ty_var (x := item) rfl) ty_b))) fun item h_item hp_item => (ty_var (x := item) rfl))) (by omega) fun x v z' B' H' e n h => ?_
    have e2 : x = true := e.trans (by rw [e_due3, e_due2, e_due]; exact due_end rfl rfl rfl)
    subst e2
    cases (show v = .bl true from h)
    exact q H'
end
/-! ### the head -/
def fn : List He.DefD := [
  ⟨("_law_called", none), "_law_called", "_law_called", defArgs s_law_called, defBody s_law_called, defScope s_law_called, [], []⟩,
  ⟨("twos_in", none), "twos_in", "twos_in", defArgs stwos_in, defBody stwos_in, defScope stwos_in, [], []⟩,
  ⟨("parting_places", none), "parting_places", "parting_places", defArgs sparting_places, defBody sparting_places, defScope sparting_places, [], []⟩,
  ⟨("words_at", none), "words_at", "words_at", defArgs swords_at, defBody swords_at, defScope swords_at, [], []⟩,
  ⟨("word_at", none), "word_at", "word_at", defArgs sword_at, defBody sword_at, defScope sword_at, [], []⟩,
  ⟨("is_places", none), "is_places", "is_places", defArgs sis_places, defBody sis_places, defScope sis_places, [], []⟩,
  ⟨("need_words", none), "need_words", "need_words", defArgs sneed_words, defBody sneed_words, defScope sneed_words, [], []⟩,
  ⟨("need_coefficients", none), "need_coefficients", "need_coefficients", defArgs sneed_coefficients, defBody sneed_coefficients, defScope sneed_coefficients, [], []⟩,
  ⟨("need_whole", none), "need_whole", "need_whole", defArgs sneed_whole, defBody sneed_whole, defScope sneed_whole, [], []⟩,
  ⟨("is_whole", none), "is_whole", "is_whole", defArgs sis_whole, defBody sis_whole, defScope sis_whole, [], []⟩,
  ⟨("twos_of", none), "twos_of", "twos_of", defArgs stwos_of, defBody stwos_of, defScope stwos_of, [], []⟩,
  ⟨("climbs", none), "climbs", "climbs", defArgs sclimbs, defBody sclimbs, defScope sclimbs, [], []⟩,
  ⟨("_law_hash", none), "_law_hash", "_law_hash", defArgs s_hash, defBody s_hash, defScope s_hash, [], []⟩,
  ⟨("_law_cell", none), "_law_cell", "_law_cell", defArgs s_cell, defBody s_cell, defScope s_cell, [], []⟩,
  ⟨("_law_power", none), "_law_power", "_law_power", defArgs s_law_power, defBody s_law_power, defScope s_law_power, [], []⟩,
  ⟨("is_between", none), "is_between", "is_between", defArgs sis_between, defBody sis_between, defScope sis_between, [], []⟩,
  ⟨("is_one_of", none), "is_one_of", "is_one_of", defArgs sis_one_of, defBody sis_one_of, defScope sis_one_of, [], []⟩,
  ⟨("are_wholes", none), "are_wholes", "are_wholes", defArgs sare_wholes, defBody sare_wholes, defScope sare_wholes, [], []⟩,
  ⟨("_law_random", none), "_law_random", "_law_random", defArgs s_random, defBody s_random, defScope s_random, [], []⟩,
  ⟨("_law_generator", none), "_law_generator", "_law_generator", defArgs s_generator, defBody s_generator, defScope s_generator, [], []⟩,
  ⟨("fits_width", none), "fits_width", "fits_width", defArgs sfits_width, defBody sfits_width, defScope sfits_width, [], []⟩,
  ⟨("fits_word", none), "fits_word", "fits_word", defArgs sfits_word, defBody sfits_word, defScope sfits_word, [], []⟩,
  ⟨("_law_places", none), "_law_places", "_law_places", defArgs s_law_places, defBody s_law_places, defScope s_law_places, [], []⟩,
  ⟨("_law_words", none), "_law_words", "_law_words", defArgs s_law_words, defBody s_law_words, defScope s_law_words, [], []⟩,
  ⟨("are_words", none), "are_words", "are_words", defArgs sare_words, defBody sare_words, defScope sare_words, [], []⟩,
  ⟨("is_known_word", none), "is_known_word", "is_known_word", defArgs sis_known_word, defBody sis_known_word, defScope sis_known_word, [], []⟩,
  ⟨("need_width", none), "need_width", "need_width", defArgs sneed_width, defBody sneed_width, defScope sneed_width, [], []⟩,
  ⟨("are_places", none), "are_places", "are_places", defArgs sare_places, defBody sare_places, defScope sare_places, [], []⟩,
  ⟨("are_words_at", none), "are_words_at", "are_words_at", defArgs sare_words_at, defBody sare_words_at, defScope sare_words_at, [], []⟩,
  ⟨("are_known", none), "are_known", "are_known", defArgs sare_known, defBody sare_known, defScope sare_known, [], []⟩,
  ⟨("is_word", none), "is_word", "is_word", defArgs sis_word, defBody sis_word, defScope sis_word, [], []⟩,
  ⟨("need_places", none), "need_places", "need_places", defArgs sneed_places, defBody sneed_places, defScope sneed_places, [], []⟩,
  ⟨("is_words", none), "is_words", "is_words", defArgs sis_words, defBody sis_words, defScope sis_words, [], []⟩,
  ⟨("is_known", none), "is_known", "is_known", defArgs sis_known, defBody sis_known, defScope sis_known, [], []⟩,
  ⟨("_law_refused", none), "_law_refused", "_law_refused", defArgs s_law_refused, defBody s_law_refused, defScope s_law_refused, [], []⟩,
  ⟨("_law_widths_refused", none), "_law_widths_refused", "_law_widths_refused", defArgs s_law_widths_refused, defBody s_law_widths_refused, defScope s_law_widths_refused, [], []⟩,
  ⟨("_law_places_refused", none), "_law_places_refused", "_law_places_refused", defArgs s_law_places_refused, defBody s_law_places_refused, defScope s_law_places_refused, [], []⟩,
  ⟨("_law_words_refused", none), "_law_words_refused", "_law_words_refused", defArgs s_law_words_refused, defBody s_law_words_refused, defScope s_law_words_refused, [], []⟩,
  ⟨("law", none), "law", "law", defArgs slaw, defBody slaw, defScope slaw, [], []⟩,
  ⟨("InvalidItems", some "__init__"), "__init__", "InvalidItems.__init__", defArgs iniInvalidItems, defBody iniInvalidItems, defScope iniInvalidItems, [.non], []⟩,
  ⟨("InvalidNumber", some "__init__"), "__init__", "InvalidNumber.__init__", defArgs iniInvalidNumber, defBody iniInvalidNumber, defScope iniInvalidNumber, [.non], []⟩,
  ⟨("InvalidPlaces", some "__init__"), "__init__", "InvalidPlaces.__init__", defArgs iniInvalidPlaces, defBody iniInvalidPlaces, defScope iniInvalidPlaces, [.non], []⟩,
  ⟨("InvalidWidth", some "__init__"), "__init__", "InvalidWidth.__init__", defArgs iniInvalidWidth, defBody iniInvalidWidth, defScope iniInvalidWidth, [.non], []⟩,
  ⟨("InvalidWords", some "__init__"), "__init__", "InvalidWords.__init__", defArgs iniInvalidWords, defBody iniInvalidWords, defScope iniInvalidWords, [.non], []⟩]
def fa : List He.Fa := .glo "_law_called" :: .glo "twos_in" :: .glo "parting_places" :: .glo "words_at" :: .glo "word_at" :: .glo "is_places" :: .glo "need_words" :: .glo "need_coefficients" :: .glo "need_whole" :: .glo "is_whole" :: .glo "twos_of" :: .glo "climbs" :: .glo "_law_hash" :: .glo "_law_cell" :: .glo "_law_power" :: .glo "is_between" :: .glo "is_one_of" :: .glo "are_wholes" :: .glo "_law_random" :: .glo "_law_generator" :: .glo "fits_width" :: .glo "fits_word" :: .glo "_law_places" :: .glo "_law_words" :: .glo "are_words" :: .glo "is_known_word" :: .glo "need_width" :: .glo "are_places" :: .glo "are_words_at" :: .glo "are_known" :: .glo "is_word" :: .glo "need_places" :: .glo "is_words" :: .glo "is_known" :: .glo "_law_refused" :: .glo "_law_widths_refused" :: .glo "_law_places_refused" :: .glo "_law_words_refused" :: .glo "law" :: .free "int" :: .free "bool" :: .free "list" :: .free "tuple" :: .free "dict" :: .free "isinstance" :: .free "all" :: .free "any" :: .free "len" :: .free "range" :: .free "sum" :: .free "max" :: .free "min" :: .free "sorted" :: .free "repr" :: .free "enumerate" :: .free "zip" :: .free "reversed" :: .free "abs" :: .free "ValueError" :: .int "WIDEST" 64 :: .glo "InvalidItems" :: .glo "InvalidNumber" :: .glo "InvalidPlaces" :: .glo "InvalidWidth" :: .glo "InvalidWords" :: .glo "CodeError" :: []
abbrev EN : List Str := ["InvalidItems", "InvalidNumber", "InvalidPlaces", "InvalidWidth", "InvalidWords"]
abbrev R : PySem.W.OpenRow := PySem.W.OpenLaw.row PySem.Challenge.rw_anyplaces_k04_words_and_places_refused
abbrev hk : PySem.W.Hook := hookE 5 fa fn EN
def ob (s : PySem.W.SharedT) : AlE := obE 5 fa fn EN s
theorem ob_eq (s : PySem.W.SharedT) : ob s = hk.obs s.abs := obE_eq s
abbrev loose : List Str := "CodeError" :: "InvalidNumber" :: "InvalidWidth" :: "InvalidWords" :: "InvalidPlaces" :: "InvalidItems" :: "is_whole" :: "is_between" :: "fits_width" :: "fits_word" :: "twos_of" :: "is_one_of" :: "are_wholes" :: "are_words" :: "climbs" :: "are_places" :: "are_words_at" :: "is_known_word" :: "are_known" :: "need_width" :: "need_places" :: "need_whole" :: "need_words" :: "is_word" :: "is_places" :: "is_words" :: "is_known" :: "twos_in" :: "need_coefficients" :: "worth_at" :: "word_at" :: "words_at" :: "parting_places" :: "_law_hash" :: "_law_random" :: "_law_cell" :: "_law_generator" :: "_law_power" :: "_law_places" :: "_law_words" :: "_law_called" :: "_law_refused" :: "_law_widths_refused" :: "_law_places_refused" :: "_law_words_refused" :: "WIDEST" :: []
theorem run (w : World) : HandSHeadRun.RunEq R (PySem.W.view R.prog [51]) hk ob 8000 loose w := by
  intro os
  kernel_rfl
theorem facts {P : Program} {w : World} {K : PySem.W.Frag} {h : Heap} {mg : Str → Option Value} {f : Addr} (X : K.In h) (G : h.Ns mainGlobals mg) (hfa : mg ("law" : Str) = some (.ref f)) (c : SaysE fa fn EN K) :
    ∃ fd : FuncData, (∀ (s : Shared) (v : Value), BindsTo s fd ⟨[v], []⟩ [("_law_script", v)]) ∧ ∀ base : Heap, K.In base → base.Ns mainGlobals mg → FnG P w K mg base CX0 13 f fd ["_law_script"] (spLaw K) := by
  obtain ⟨c, ex⟩ := c
  have ex := exE_ok ex
  obtain ⟨d0, Z0⟩ := c.def_ 0 (d := _) rfl
  obtain ⟨d1, Z1⟩ := c.def_ 1 (d := _) rfl
  obtain ⟨d2, Z2⟩ := c.def_ 2 (d := _) rfl
  obtain ⟨d3, Z3⟩ := c.def_ 3 (d := _) rfl
  obtain ⟨d4, Z4⟩ := c.def_ 4 (d := _) rfl
  obtain ⟨d5, Z5⟩ := c.def_ 5 (d := _) rfl
  obtain ⟨d6, Z6⟩ := c.def_ 6 (d := _) rfl
  obtain ⟨d7, Z7⟩ := c.def_ 7 (d := _) rfl
  obtain ⟨d8, Z8⟩ := c.def_ 8 (d := _) rfl
  obtain ⟨d9, Z9⟩ := c.def_ 9 (d := _) rfl
  obtain ⟨d10, Z10⟩ := c.def_ 10 (d := _) rfl
  obtain ⟨d11, Z11⟩ := c.def_ 11 (d := _) rfl
  obtain ⟨d12, Z12⟩ := c.def_ 12 (d := _) rfl
  obtain ⟨d13, Z13⟩ := c.def_ 13 (d := _) rfl
  obtain ⟨d14, Z14⟩ := c.def_ 14 (d := _) rfl
  obtain ⟨d15, Z15⟩ := c.def_ 15 (d := _) rfl
  obtain ⟨d16, Z16⟩ := c.def_ 16 (d := _) rfl
  obtain ⟨d17, Z17⟩ := c.def_ 17 (d := _) rfl
  obtain ⟨d18, Z18⟩ := c.def_ 18 (d := _) rfl
  obtain ⟨d19, Z19⟩ := c.def_ 19 (d := _) rfl
  obtain ⟨d20, Z20⟩ := c.def_ 20 (d := _) rfl
  obtain ⟨d21, Z21⟩ := c.def_ 21 (d := _) rfl
  obtain ⟨d22, Z22⟩ := c.def_ 22 (d := _) rfl
  obtain ⟨d23, Z23⟩ := c.def_ 23 (d := _) rfl
  obtain ⟨d24, Z24⟩ := c.def_ 24 (d := _) rfl
  obtain ⟨d25, Z25⟩ := c.def_ 25 (d := _) rfl
  obtain ⟨d26, Z26⟩ := c.def_ 26 (d := _) rfl
  obtain ⟨d27, Z27⟩ := c.def_ 27 (d := _) rfl
  obtain ⟨d28, Z28⟩ := c.def_ 28 (d := _) rfl
  obtain ⟨d29, Z29⟩ := c.def_ 29 (d := _) rfl
  obtain ⟨d30, Z30⟩ := c.def_ 30 (d := _) rfl
  obtain ⟨d31, Z31⟩ := c.def_ 31 (d := _) rfl
  obtain ⟨d32, Z32⟩ := c.def_ 32 (d := _) rfl
  obtain ⟨d33, Z33⟩ := c.def_ 33 (d := _) rfl
  obtain ⟨d34, Z34⟩ := c.def_ 34 (d := _) rfl
  obtain ⟨d35, Z35⟩ := c.def_ 35 (d := _) rfl
  obtain ⟨d36, Z36⟩ := c.def_ 36 (d := _) rfl
  obtain ⟨d37, Z37⟩ := c.def_ 37 (d := _) rfl
  obtain ⟨d38, Z38⟩ := c.def_ 38 (d := _) rfl
  obtain ⟨d39, Z39⟩ := c.def_ 39 (d := _) rfl
  obtain ⟨d40, Z40⟩ := c.def_ 40 (d := _) rfl
  obtain ⟨d41, Z41⟩ := c.def_ 41 (d := _) rfl
  obtain ⟨d42, Z42⟩ := c.def_ 42 (d := _) rfl
  obtain ⟨d43, Z43⟩ := c.def_ 43 (d := _) rfl
  have glo : ∀ (i : Nat) (y : Str), fa[i]? = some (.glo y) → mg y = some (.ref (He.ga K y)) := fun i y e => He.glo_ok X G (c.fact i e)
  have free : ∀ (i : Nat) (y : Str), fa[i]? = some (.free y) → mg y = none := fun i y e => He.free_ok X G (c.fact i e)
  have T : TN mg := ⟨free 39 _ rfl, free 40 _ rfl, free 41 _ rfl, free 42 _ rfl, free 43 _ rfl, free 44 _ rfl, free 45 _ rfl, free 46 _ rfl, free 47 _ rfl, free 48 _ rfl, free 49 _ rfl, free 50 _ rfl, free 51 _ rfl, free 52 _ rfl, free 53 _ rfl, free 54 _ rfl, free 55 _ rfl, free 56 _ rfl, free 57 _ rfl, free 58 _ rfl⟩
  have IWIDEST := He.int_ok X G (x := "WIDEST") (i := 64) (c.fact 59 rfl)
  have mE : ∀ y ∈ EN, mg y = some (.ref (He.ga K y)) := fun y hy => by
    simp only [EN, List.mem_cons, List.not_mem_nil, or_false] at hy
    rcases hy with rfl | rfl | rfl | rfl | rfl
    · exact glo 60 _ rfl
    · exact glo 61 _ rfl
    · exact glo 62 _ rfl
    · exact glo 63 _ rfl
    · exact glo 64 _ rfl
  have mB := glo 65 "CodeError" rfl
  have EC : ErrF K mg (He.ga K) EN := ex.facts mE mB
  have e := hfa.symm.trans (glo 38 "law" rfl)
  cases e
  have bl := FunD.bindsA (ps := ["_law_script"]) Z38 fun _ _ _ _ _ _ us hl => match us, hl with | [_], _ => rfl
  refine ⟨d38, fun s v => bl s [v] rfl, fun base _ _ => ?_⟩
  have MInvalidItems : Mk P w K mg base "InvalidItems" (He.ga K "InvalidItems") := ⟨_, _, (ex.c "InvalidItems" (by decide)).1, binds_ini Z39 rfl, ok_iniInvalidItems Z39 mB ex.base (ex.c "InvalidItems" (by decide)).1.o (ex.c "InvalidItems" (by decide)).2.2, mE "InvalidItems" (by decide)⟩
  have MInvalidNumber : Mk P w K mg base "InvalidNumber" (He.ga K "InvalidNumber") := ⟨_, _, (ex.c "InvalidNumber" (by decide)).1, binds_ini Z40 rfl, ok_iniInvalidNumber Z40 mB ex.base (ex.c "InvalidNumber" (by decide)).1.o (ex.c "InvalidNumber" (by decide)).2.2, mE "InvalidNumber" (by decide)⟩
  have MInvalidPlaces : Mk P w K mg base "InvalidPlaces" (He.ga K "InvalidPlaces") := ⟨_, _, (ex.c "InvalidPlaces" (by decide)).1, binds_ini Z41 rfl, ok_iniInvalidPlaces Z41 mB ex.base (ex.c "InvalidPlaces" (by decide)).1.o (ex.c "InvalidPlaces" (by decide)).2.2, mE "InvalidPlaces" (by decide)⟩
  have MInvalidWidth : Mk P w K mg base "InvalidWidth" (He.ga K "InvalidWidth") := ⟨_, _, (ex.c "InvalidWidth" (by decide)).1, binds_ini Z42 rfl, ok_iniInvalidWidth Z42 mB ex.base (ex.c "InvalidWidth" (by decide)).1.o (ex.c "InvalidWidth" (by decide)).2.2, mE "InvalidWidth" (by decide)⟩
  have MInvalidWords : Mk P w K mg base "InvalidWords" (He.ga K "InvalidWords") := ⟨_, _, (ex.c "InvalidWords" (by decide)).1, binds_ini Z43 rfl, ok_iniInvalidWords Z43 mB ex.base (ex.c "InvalidWords" (by decide)).1.o (ex.c "InvalidWords" (by decide)).2.2, mE "InvalidWords" (by decide)⟩
  have Fis_whole : Fo P w K mg base "is_whole" 1 ["value"] cWhole.sp := .mk' (qual := "is_whole") (st := sis_whole) Z9 (glo 9 _ rfl) (ok_is_whole Z9 T) (fun _ _ _ _ _ _ us hl => match us, hl with | [_], _ => rfl) (fun _ _ _ _ _ _ us hl => match us, hl with | [_], _ => rfl)
  have Ftwos_of : Fo P w K mg base "twos_of" 1 ["number"] cTwosIn.sp := .mk' (qual := "twos_of") (st := stwos_of) Z10 (glo 10 _ rfl) (ok_twos_of Z10 T) (fun _ _ _ _ _ _ us hl => match us, hl with | [_], _ => rfl) (fun _ _ _ _ _ _ us hl => match us, hl with | [_], _ => rfl)
  have Fclimbs : Fo P w K mg base "climbs" 1 ["numbers"] cClimbs.sp := .mk' (qual := "climbs") (st := sclimbs) Z11 (glo 11 _ rfl) (ok_climbs Z11 T) (fun _ _ _ _ _ _ us hl => match us, hl with | [_], _ => rfl) (fun _ _ _ _ _ _ us hl => match us, hl with | [_], _ => rfl)
  have F_law_hash : Fo P w K mg base "_law_hash" 1 ["_law_seed", "_law_index"] spHash := .mk' (qual := "_law_hash") (st := s_hash) Z12 (glo 12 _ rfl) (ok_hash Z12 ⟨T.b_int, T.b_len, T.b_sum, T.b_max, T.b_range⟩) (fun _ _ _ _ _ _ us hl => match us, hl with | [_, _], _ => rfl) (fun _ _ _ _ _ _ us hl => match us, hl with | [_, _], _ => rfl)
  have F_law_cell : Fo P w K mg base "_law_cell" 1 ["_law_script", "_law_index"] (spCellA K) := .mk' (qual := "_law_cell") (st := s_cell) Z13 (glo 13 _ rfl) (ok_cell Z13 ⟨T.b_int, T.b_len, T.b_sum, T.b_max, T.b_range⟩) (fun _ _ _ _ _ _ us hl => match us, hl with | [_, _], _ => rfl) (fun _ _ _ _ _ _ us hl => match us, hl with | [_, _], _ => rfl)
  have F_law_power : Fo P w K mg base "_law_power" 1 ["_law_number", "_law_times"] cPower4.sp := .mk' (qual := "_law_power") (st := s_law_power) Z14 (glo 14 _ rfl) (ok_law_power Z14 T) (fun _ _ _ _ _ _ us hl => match us, hl with | [_, _], _ => rfl) (fun _ _ _ _ _ _ us hl => match us, hl with | [_, _], _ => rfl)
  have Fis_between : Fo P w K mg base "is_between" 2 ["value", "low", "high"] cBetween.sp := .mk' (qual := "is_between") (st := sis_between) Z15 (glo 15 _ rfl) (ok_is_between Z15 T Fis_whole) (fun _ _ _ _ _ _ us hl => match us, hl with | [_, _, _], _ => rfl) (fun _ _ _ _ _ _ us hl => match us, hl with | [_, _, _], _ => rfl)
  have Fis_one_of : Fo P w K mg base "is_one_of" 2 ["places", "value"] cIsOneOf.sp := .mk' (qual := "is_one_of") (st := sis_one_of) Z16 (glo 16 _ rfl) (ok_is_one_of Z16 T Fis_whole) (fun _ _ _ _ _ _ us hl => match us, hl with | [_, _], _ => rfl) (fun _ _ _ _ _ _ us hl => match us, hl with | [_, _], _ => rfl)
  have Fare_wholes : Fo P w K mg base "are_wholes" 2 ["value"] cAreWholes.sp := .mk' (qual := "are_wholes") (st := sare_wholes) Z17 (glo 17 _ rfl) (ok_are_wholes Z17 T Fis_whole) (fun _ _ _ _ _ _ us hl => match us, hl with | [_], _ => rfl) (fun _ _ _ _ _ _ us hl => match us, hl with | [_], _ => rfl)
  have F_law_random : Fo P w K mg base "_law_random" 2 ["_law_generator_here", "_law_bound"] cRandom.sp := .mk' (qual := "_law_random") (st := s_random) Z18 (glo 18 _ rfl) (random_con (ok_random Z18 ⟨T.b_int, T.b_len, T.b_sum, T.b_max, T.b_range⟩ Z12 (glo 12 _ rfl) (FunD.bindsN Z12 fun _ _ _ _ _ _ us hl => match us, hl with | [_, _], _ => rfl))) (fun _ _ _ _ _ _ us hl => match us, hl with | [_, _], _ => rfl) (fun _ _ _ _ _ _ us hl => match us, hl with | [_, _], _ => rfl)
  have F_law_generator : Fo P w K mg base "_law_generator" 2 ["_law_script", "_law_index"] (spGenerator K) := .mk' (qual := "_law_generator") (st := s_generator) Z19 (glo 19 _ rfl) (ok_generator Z19 ⟨T.b_int, T.b_len, T.b_sum, T.b_max, T.b_range⟩ Z13 (glo 13 _ rfl) (FunD.bindsN Z13 fun _ _ _ _ _ _ us hl => match us, hl with | [_, _], _ => rfl)) (fun _ _ _ _ _ _ us hl => match us, hl with | [_, _], _ => rfl) (fun _ _ _ _ _ _ us hl => match us, hl with | [_, _], _ => rfl)
  have Ffits_width : Fo P w K mg base "fits_width" 3 ["value"] cFitsWidth.sp := .mk' (qual := "fits_width") (st := sfits_width) Z20 (glo 20 _ rfl) (ok_fits_width Z20 T IWIDEST Fis_between) (fun _ _ _ _ _ _ us hl => match us, hl with | [_], _ => rfl) (fun _ _ _ _ _ _ us hl => match us, hl with | [_], _ => rfl)
  have Ffits_word : Fo P w K mg base "fits_word" 3 ["width", "value"] cFitsWord.sp := .mk' (qual := "fits_word") (st := sfits_word) Z21 (glo 21 _ rfl) (ok_fits_word Z21 T Fis_between) (fun _ _ _ _ _ _ us hl => match us, hl with | [_, _], _ => rfl) (fun _ _ _ _ _ _ us hl => match us, hl with | [_, _], _ => rfl)
  have F_law_places : Fo P w K mg base "_law_places" 3 ["_law_generator_here", "_law_width", "_law_most"] cPlaces4.sp := .mk' (qual := "_law_places") (st := s_law_places) Z22 (glo 22 _ rfl) (ok_law_places Z22 T F_law_power F_law_random) (fun _ _ _ _ _ _ us hl => match us, hl with | [_, _, _], _ => rfl) (fun _ _ _ _ _ _ us hl => match us, hl with | [_, _, _], _ => rfl)
  have F_law_words : Fo P w K mg base "_law_words" 3 ["_law_generator_here", "_law_width", "_law_many"] cWords4.sp := .mk' (qual := "_law_words") (st := s_law_words) Z23 (glo 23 _ rfl) (ok_law_words Z23 T F_law_random F_law_power) (fun _ _ _ _ _ _ us hl => match us, hl with | [_, _, _], _ => rfl) (fun _ _ _ _ _ _ us hl => match us, hl with | [_, _, _], _ => rfl)
  have FXneed_whole : FoX P w K mg base "need_whole" 3 ["number"] (cNeedWholeX (He.ga K)).spX := .mk' (qual := "need_whole") (st := sneed_whole) Z8 (glo 8 _ rfl) (okX_need_whole Z8 T Fis_whole MInvalidNumber) (fun _ _ _ _ _ _ us hl => match us, hl with | [_], _ => rfl) (fun _ _ _ _ _ _ us hl => match us, hl with | [_], _ => rfl)
  have Fare_words : Fo P w K mg base "are_words" 4 ["width", "value"] cAreWords.sp := .mk' (qual := "are_words") (st := sare_words) Z24 (glo 24 _ rfl) (ok_are_words Z24 T Ffits_word) (fun _ _ _ _ _ _ us hl => match us, hl with | [_, _], _ => rfl) (fun _ _ _ _ _ _ us hl => match us, hl with | [_, _], _ => rfl)
  have Fis_known_word : Fo P w K mg base "is_known_word" 4 ["width", "places", "value"] cKnownOne.sp := .mk' (qual := "is_known_word") (st := sis_known_word) Z25 (glo 25 _ rfl) (ok_is_known_word Z25 T Fis_one_of Ffits_word) (fun _ _ _ _ _ _ us hl => match us, hl with | [_, _, _], _ => rfl) (fun _ _ _ _ _ _ us hl => match us, hl with | [_, _, _], _ => rfl)
  have Fneed_width : Fo P w K mg base "need_width" 4 ["width"] cNeedWidth.sp := .mk' (qual := "need_width") (st := sneed_width) Z26 (glo 26 _ rfl) (ok_need_width Z26 T Ffits_width) (fun _ _ _ _ _ _ us hl => match us, hl with | [_], _ => rfl) (fun _ _ _ _ _ _ us hl => match us, hl with | [_], _ => rfl)
  have FXneed_width : FoX P w K mg base "need_width" 4 ["width"] (cNeedWidthX (He.ga K)).spX := .mk' (qual := "need_width") (st := sneed_width) Z26 (glo 26 _ rfl) (okX_need_width Z26 T Ffits_width MInvalidWidth) (fun _ _ _ _ _ _ us hl => match us, hl with | [_], _ => rfl) (fun _ _ _ _ _ _ us hl => match us, hl with | [_], _ => rfl)
  have FXneed_coefficients : FoX P w K mg base "need_coefficients" 4 ["coefficients"] (cNeedCoX (He.ga K)).spX := .mk' (qual := "need_coefficients") (st := sneed_coefficients) Z7 (glo 7 _ rfl) (okX_need_coefficients Z7 T Fare_wholes MInvalidItems) (fun _ _ _ _ _ _ us hl => match us, hl with | [_], _ => rfl) (fun _ _ _ _ _ _ us hl => match us, hl with | [_], _ => rfl)
  have Fare_places : Fo P w K mg base "are_places" 5 ["width", "value"] cArePlaces.sp := .mk' (qual := "are_places") (st := sare_places) Z27 (glo 27 _ rfl) (ok_are_places Z27 T Fare_words Fclimbs) (fun _ _ _ _ _ _ us hl => match us, hl with | [_, _], _ => rfl) (fun _ _ _ _ _ _ us hl => match us, hl with | [_, _], _ => rfl)
  have Fare_words_at : Fo P w K mg base "are_words_at" 5 ["width", "places", "value"] cWordsAt.sp := .mk' (qual := "are_words_at") (st := sare_words_at) Z28 (glo 28 _ rfl) (ok_are_words_at Z28 T Fare_words) (fun _ _ _ _ _ _ us hl => match us, hl with | [_, _, _], _ => rfl) (fun _ _ _ _ _ _ us hl => match us, hl with | [_, _, _], _ => rfl)
  have Fare_known : Fo P w K mg base "are_known" 5 ["width", "places", "value"] cKnown.sp := .mk' (qual := "are_known") (st := sare_known) Z29 (glo 29 _ rfl) (ok_are_known Z29 T Fis_known_word Fclimbs) (fun _ _ _ _ _ _ us hl => match us, hl with | [_, _, _], _ => rfl) (fun _ _ _ _ _ _ us hl => match us, hl with | [_, _, _], _ => rfl)
  have Fis_word : Fo P w K mg base "is_word" 5 ["width", "value"] cIsWord.sp := .mk' (qual := "is_word") (st := sis_word) Z30 (glo 30 _ rfl) (ok_is_word Z30 T Fneed_width Ffits_word) (fun _ _ _ _ _ _ us hl => match us, hl with | [_, _], _ => rfl) (fun _ _ _ _ _ _ us hl => match us, hl with | [_, _], _ => rfl)
  have FXtwos_in : FoX P w K mg base "twos_in" 5 ["number"] (cBadTwosIn (He.ga K)).spX := .mk' (qual := "twos_in") (st := stwos_in) Z1 (glo 1 _ rfl) (okX_twos_in Z1 T FXneed_whole) (fun _ _ _ _ _ _ us hl => match us, hl with | [_], _ => rfl) (fun _ _ _ _ _ _ us hl => match us, hl with | [_], _ => rfl)
  have Fneed_places : Fo P w K mg base "need_places" 6 ["width", "places"] cNeedPlaces.sp := .mk' (qual := "need_places") (st := sneed_places) Z31 (glo 31 _ rfl) (ok_need_places Z31 T Fare_places) (fun _ _ _ _ _ _ us hl => match us, hl with | [_, _], _ => rfl) (fun _ _ _ _ _ _ us hl => match us, hl with | [_, _], _ => rfl)
  have FXneed_places : FoX P w K mg base "need_places" 6 ["width", "places"] (cNeedPlacesX (He.ga K)).spX := .mk' (qual := "need_places") (st := sneed_places) Z31 (glo 31 _ rfl) (okX_need_places Z31 T Fare_places MInvalidPlaces) (fun _ _ _ _ _ _ us hl => match us, hl with | [_, _], _ => rfl) (fun _ _ _ _ _ _ us hl => match us, hl with | [_, _], _ => rfl)
  have FXneed_words : FoX P w K mg base "need_words" 6 ["width", "places", "words"] (cNeedWordsX (He.ga K)).spX := .mk' (qual := "need_words") (st := sneed_words) Z6 (glo 6 _ rfl) (okX_need_words Z6 T Fare_words_at MInvalidWords) (fun _ _ _ _ _ _ us hl => match us, hl with | [_, _, _], _ => rfl) (fun _ _ _ _ _ _ us hl => match us, hl with | [_, _, _], _ => rfl)
  have Fis_words : Fo P w K mg base "is_words" 7 ["width", "places", "value"] cIsWords.sp := .mk' (qual := "is_words") (st := sis_words) Z32 (glo 32 _ rfl) (ok_is_words Z32 T Fneed_width Fneed_places Fare_words_at) (fun _ _ _ _ _ _ us hl => match us, hl with | [_, _, _], _ => rfl) (fun _ _ _ _ _ _ us hl => match us, hl with | [_, _, _], _ => rfl)
  have Fis_known : Fo P w K mg base "is_known" 7 ["width", "places", "value"] cIsKnown.sp := .mk' (qual := "is_known") (st := sis_known) Z33 (glo 33 _ rfl) (ok_is_known Z33 T Fneed_width Fneed_places Fare_known) (fun _ _ _ _ _ _ us hl => match us, hl with | [_, _, _], _ => rfl) (fun _ _ _ _ _ _ us hl => match us, hl with | [_, _, _], _ => rfl)
  have FXis_word : FoX P w K mg base "is_word" 7 ["width", "value"] (cBadW (He.ga K)).spX := .mk' (qual := "is_word") (st := sis_word) Z30 (glo 30 _ rfl) (okX_is_word Z30 T FXneed_width) (fun _ _ _ _ _ _ us hl => match us, hl with | [_, _], _ => rfl) (fun _ _ _ _ _ _ us hl => match us, hl with | [_, _], _ => rfl)
  have FXis_places : FoX P w K mg base "is_places" 7 ["width", "value"] (cBadW (He.ga K)).spX := .mk' (qual := "is_places") (st := sis_places) Z5 (glo 5 _ rfl) (okX_is_places Z5 T FXneed_width) (fun _ _ _ _ _ _ us hl => match us, hl with | [_, _], _ => rfl) (fun _ _ _ _ _ _ us hl => match us, hl with | [_, _], _ => rfl)
  have FXis_words : FoX P w K mg base "is_words" 7 ["width", "places", "value"] (cBadWP (He.ga K)).spX := .mk' (qual := "is_words") (st := sis_words) Z32 (glo 32 _ rfl) (okX_is_words Z32 T FXneed_width FXneed_places) (fun _ _ _ _ _ _ us hl => match us, hl with | [_, _, _], _ => rfl) (fun _ _ _ _ _ _ us hl => match us, hl with | [_, _, _], _ => rfl)
  have FXis_known : FoX P w K mg base "is_known" 7 ["width", "places", "value"] (cBadWP (He.ga K)).spX := .mk' (qual := "is_known") (st := sis_known) Z33 (glo 33 _ rfl) (okX_is_known Z33 T FXneed_width FXneed_places) (fun _ _ _ _ _ _ us hl => match us, hl with | [_, _, _], _ => rfl) (fun _ _ _ _ _ _ us hl => match us, hl with | [_, _, _], _ => rfl)
  have FXword_at : FoX P w K mg base "word_at" 7 ["width", "coefficients", "number"] (cBadWordAt (He.ga K)).spX := .mk' (qual := "word_at") (st := sword_at) Z4 (glo 4 _ rfl) (okX_word_at Z4 T FXneed_width FXneed_coefficients FXneed_whole) (fun _ _ _ _ _ _ us hl => match us, hl with | [_, _, _], _ => rfl) (fun _ _ _ _ _ _ us hl => match us, hl with | [_, _, _], _ => rfl)
  have FXwords_at : FoX P w K mg base "words_at" 7 ["width", "coefficients", "places"] (cBadWordsAt (He.ga K)).spX := .mk' (qual := "words_at") (st := swords_at) Z3 (glo 3 _ rfl) (okX_words_at Z3 T FXneed_width FXneed_coefficients FXneed_places) (fun _ _ _ _ _ _ us hl => match us, hl with | [_, _, _], _ => rfl) (fun _ _ _ _ _ _ us hl => match us, hl with | [_, _, _], _ => rfl)
  have FXparting_places : FoX P w K mg base "parting_places" 7 ["width", "places", "words", "others"] (cBadParting (He.ga K)).spX := .mk' (qual := "parting_places") (st := sparting_places) Z2 (glo 2 _ rfl) (okX_parting_places Z2 T FXneed_width FXneed_places FXneed_words) (fun _ _ _ _ _ _ us hl => match us, hl with | [_, _, _, _], _ => rfl) (fun _ _ _ _ _ _ us hl => match us, hl with | [_, _, _, _], _ => rfl)
  have FX_law_called : FoX P w K mg base "_law_called" 8 ["_law_door", "_law_args"] (cCalled (He.ga K)).spX := .mk' (qual := "_law_called") (st := s_law_called) Z0 (glo 0 _ rfl) (okX_law_called Z0 T FXtwos_in FXis_word FXis_places FXis_words FXis_known FXword_at FXwords_at FXparting_places) (fun _ _ _ _ _ _ us hl => match us, hl with | [_, _], _ => rfl) (fun _ _ _ _ _ _ us hl => match us, hl with | [_, _], _ => rfl)
  have F_law_refused : FoG P w K mg base "_law_refused" 10 ["_law_door", "_law_args", "_law_name", "_law_field"] cRefused4.sp := .mk' (qual := "_law_refused") (st := s_law_refused) Z34 (glo 34 _ rfl) (ok_law_refused Z34 T EC FX_law_called) (fun _ _ _ _ _ _ us hl => match us, hl with | [_, _, _, _], _ => rfl)
  have F_law_widths_refused : FoG P w K mg base "_law_widths_refused" 12 ["_law_width", "_law_places_here"] cWidR.sp := .mk' (qual := "_law_widths_refused") (st := s_law_widths_refused) Z35 (glo 35 _ rfl) (ok_law_widths_refused Z35 T F_law_refused) (fun _ _ _ _ _ _ us hl => match us, hl with | [_, _], _ => rfl)
  have F_law_places_refused : FoG P w K mg base "_law_places_refused" 12 ["_law_width", "_law_places_here"] cPlaR.sp := .mk' (qual := "_law_places_refused") (st := s_law_places_refused) Z36 (glo 36 _ rfl) (ok_law_places_refused Z36 T F_law_power F_law_refused) (fun _ _ _ _ _ _ us hl => match us, hl with | [_, _], _ => rfl)
  have F_law_words_refused : FoG P w K mg base "_law_words_refused" 12 ["_law_width", "_law_places_here", "_law_words_here"] cWorR.sp := .mk' (qual := "_law_words_refused") (st := s_law_words_refused) Z37 (glo 37 _ rfl) (ok_law_words_refused Z37 T F_law_power F_law_refused) (fun _ _ _ _ _ _ us hl => match us, hl with | [_, _, _], _ => rfl)
  exact ok_law Z38 T F_law_generator F_law_random F_law_places F_law_words F_law_widths_refused F_law_places_refused F_law_words_refused Fis_words Fis_known Fis_word
end K04
open PySem PySem.W PySem.Calls PyProof.Rows
theorem PySem.Challenge.cw_anyplaces_k04_words_and_places_refused_holds : PySem.Challenge.rw_anyplaces_k04_words_and_places_refused.Holds := by
  w_on; o_law
  refine HandSHeadRun.head_any (r := OpenLaw.row PySem.Challenge.rw_anyplaces_k04_words_and_places_refused) (q := view (OpenLaw.row PySem.Challenge.rw_anyplaces_k04_words_and_places_refused).prog [51]) (H := K04.hk) (ob := K04.ob) (M := 8000) (loose := K04.loose) (d := HandSHeadRun.topDef (OpenLaw.row PySem.Challenge.rw_anyplaces_k04_words_and_places_refused).prog 51) (kwd := []) K04.ob_eq
    (by kernel_rfl) (fun s => by kernel_rfl) K04.run (by kernel_rfl) (by kernel_rfl) (by kernel_rfl) (by rfl) (by first | assumption | decide +kernel) (by decide +kernel) ⟨rfl, rfl, rfl, rfl, rfl, by decide +kernel⟩ ?hw ?hc
  case hw => w_witness2
  case hc =>
    refine AP.walk_G (l := PySem.Challenge.rw_anyplaces_k04_words_and_places_refused) (n := 63) (k := 13) (x := "_law_script") rfl (by decide) (by kernel_rfl) ⟨rfl, by decide, by decide⟩ ?F
    intro w mg fa h Y G hmg0
    obtain ⟨K, KX, c⟩ := Y
    have hmg : mg ("law" : PySem.Str) = some (.ref fa) := by
      have e : (HandSHeadRun.topDef (OpenLaw.row PySem.Challenge.rw_anyplaces_k04_words_and_places_refused).prog 51).name = ("law" : PySem.Str) := by kernel_rfl
      rw [← e]
      exact hmg0
    obtain ⟨fd, hb, hF⟩ := K04.facts (P := (PySem.Challenge.rw_anyplaces_k04_words_and_places_refused).prog) (w := w) KX G hmg c
    exact ⟨K, fd, AP.spLaw K, KX, hb, fun H a ns hl _ hS => ⟨a, ns, rfl, hS, fun _ => rfl⟩, hF⟩
