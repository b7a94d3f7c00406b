import PyProof.Rows.All
import Wide.All
import OpenK.AllK
import Wide.FinOn
import PyProof.EqAt
import PyProof.EqKinds
import PyProof.TupleCall
import PyProof.ReprRoads
import PyProof.ReprLen
import HandS.ForMost
import HandS.ForExc
import HandS.ExcInit
import HandS.ExcValue
import HandS.Defaults
import HandS.Wide
import HandS.WideBits
import HandS.Evl
import KE.KExcIs
import HandS.More
import HandS.SortInts
import HandS.IsInst
import HandS.Conv
import HandS.Zip
import HandS.Rev
import HandS.Style
import HandS.Flow
import HandS.Sort
import HandS.DictComp
import KE.GoesMore
import KE.GoesZip
import KE.GoesEnum
import HandS.Text
import HandS.RevRange
import HandS.TupLen
import HandS.Dict
import KE.KDictZip
import HandS.Base
import HandS.ExcField
import HandS.CallSlots
import KE.DataCmp
import KE.SortData
import KE.DatumOrd
import HandS.SortKw
import HandS.Deep
import HandS.SetFor
import KE.DataAny
import KE.KFind
import HandS.TryOnly
import KE.KDictSum
import HandS.ExcOwn
import HandS.List
import PyProof.LongRange
import PyProof.ListRange
import HandS.TupAny
import Lean
import KE.KStateDown
import HandS.MakeKw
import HandS.Head0
import HandS.Head1
import HandS.Head2
import HandS.HeadEnd
import HandS.HeadHook1
import HandS.HeadHook2
import HandS.Star
import PySem.Challenge.RW_anyplaces_k05_whole_good_orders
set_option Elab.async false
set_option linter.all false
set_option maxRecDepth 100000
set_option maxHeartbeats 4000000
/-! Rules that the laws of anyplaces want beside the layer's own. -/
namespace AP
open PySem PySem.Spec PyProof.Rows L2
/-! ### a power of any size -/
def PowOk (i j : Int) : Prop := 0 ≤ j ∧ (Builtin.Int.intBits i : Int) * j ≤ 2 ^ 27
theorem op_powW {X : Cx} : OpR X (binaryOp .Pow) (rI PowOk fun i j => .int (i ^ j.toNat)) :=
  opI fun _ _ _ _ _ _ _ ok go => pow_int ok.1 ok.2 go
/-! ### a def that is called where no repr is under way -/
structure FnG (P : Program) (w : World) (K : PySem.W.Frag) (mg : Str → Option Value) (base : Heap) (CX : CXT)
    (k : Nat) (f : Addr) (fd : FuncData) (ps : List Str) (sp : Sp) : Prop where
  size : ∀ vs H Q E, sp vs H Q E → vs.length = ps.length
  goes : ∀ (A : Around) (outer : List Env) (s : Shared) (H : Hp) (args : Args) (us : List Value) (vs : List V) (Q : VK) (E : XK),
    A.guards = some [] → Room k A → Env0 P w K mg base A outer s H → BindsTo s fd args (ps.zip us) → Vals vs us →
      sp vs H Q E → codeAny (model P w) A (.call (.ref f) args) (CR CX outer P w H s Q E) s
theorem FnG.of {P : Program} {w : World} {K : PySem.W.Frag} {mg : Str → Option Value} {base : Heap} {CX : CXT} {k : Nat} {f : Addr} {fd : FuncData} {ps : List Str} {sp : Sp}
    (F : FnOk P w K mg base CX k f fd ps sp) : FnG P w K mg base CX k f fd ps sp :=
  ⟨F.len, fun A outer s H args us vs Q E _ r e b v h => F.run A outer s H args us vs Q E r e b v h⟩
section
variable {P : Program} {w : World} {K : PySem.W.Frag} {mg : Str → Option Value} {base : Heap}
/-- a def of the text as it stands behind the top, dvs its defaults -/
abbrev Df (K : PySem.W.Frag) (x qual : Str) (st : Stmt) (dvs : List V) (f : Addr) (fd : FuncData) : Prop :=
  FunD K x qual (defArgs st) (defBody st) (defScope st) dvs [] f fd
theorem Df.go {x qual : Str} {st : Stmt} {dvs : List V} {f : Addr} {fd : FuncData} {N ps : List Str} {k : Nat} {sp : Sp}
    (F : Df K x qual st dvs f fd) (S : FnScope N ps (defScope st)) (size : ∀ vs H Q E, sp vs H Q E → vs.length = ps.length)
    (body : ∀ (cdv : Value) (A : Around) (outer : List Env) (s : Shared) (H : Hp) (vs : List V) (Q : VK) (E : XK),
      Room k (A.deeper (envOfC qual (defScope st) s.heap.objs.size f cdv)) → sp vs H Q E →
        ∃ t, PSs (cxOf CX0 P w K mg base N qual (defScope st) f cdv A outer s H E).nox (defBody st) t ∧
          t { nx := fun _ H' => Q .non H', rt := Q } (start N vs) H) :
    FnOk P w K mg base CX0 (k + 1) f fd ps sp :=
  FunD.ok F S size fun cdv A outer s H vs Q E hr h => by
    obtain ⟨t, ht, hq⟩ := body cdv A outer s H vs Q E hr h
    exact ⟨t, ht.nox, hq⟩
theorem Df.goG {x qual : Str} {st : Stmt} {dvs : List V} {f : Addr} {fd : FuncData} {N ps : List Str} {k : Nat} {sp : Sp}
    (F : Df K x qual st dvs f fd) (S : FnScope N ps (defScope st)) (size : ∀ vs H Q E, sp vs H Q E → vs.length = ps.length)
    (body : ∀ (cdv : Value) (A : Around) (outer : List Env) (s : Shared) (H : Hp) (vs : List V) (Q : VK) (E : XK),
      (A.deeper (envOfC qual (defScope st) s.heap.objs.size f cdv)).guards = some [] →
      Room k (A.deeper (envOfC qual (defScope st) s.heap.objs.size f cdv)) → sp vs H Q E →
        ∃ t, PSs (cxOf CX0 P w K mg base N qual (defScope st) f cdv A outer s H E).nox (defBody st) t ∧
          t { nx := fun _ H' => Q .non H', rt := Q } (start N vs) H) :
    FnG P w K mg base CX0 (k + 1) f fd ps sp := by
  obtain ⟨oc, od, dV, kV, doc, pm, an, cdv, ct, osl, rfl, there, code, _, _⟩ := F.ex
  refine ⟨size, fun A outer s H args us vs Q E noG room env0 bind vals want => ?_⟩
  have many := size _ _ _ _ want
  have inK : K.In s.heap := env0.mod.kin.keeps fun b o e => (env0.bs b o e).1
  have lim : s.heap.NoLimit := env0.mod.nolimit.keeps fun b o e => (env0.bs b o e).1
  have kinds : ∀ y ∈ ps.zip us, (defScope st).names.lookup y.1 = some .local ∨
      ((defScope st).names.lookup y.1 = some .cell ∧
        ((cellsFrom (s.heap.objs.size + 1) (defScope st).names []).lookup y.1).isSome = true) := by
    rintro ⟨n, v⟩ hy
    rcases S.par n (List.of_mem_zip hy).1 with q | q
    · exact .inl q
    · exact .inr ⟨q, PySem.W.cellsFrom_some _ _ _ (.inl q)⟩
  refine codeAny_call_function room.depth (inK _ _ there) rfl S.co S.gen rfl
    (PySem.W.codeRec_of inK code) (bind _ _ _ _ ?_)
  refine wpAny_newFunctionEnv_cells S.kind kinds fun env eenv s1 call => ?_
  subst eenv
  refine ⟨lim.keeps call.toInCall.keep, codeAny_func ?_⟩
  obtain ⟨t, ht, hq⟩ := body cdv A outer s H vs Q E noG (room.deeper _) want
  have J := inv_start (CX := CX0) (E := E) S room.hd env0 many vals call
  refine wpAny_mono (ht.nox.run [] s1 (start N vs) H _ J hq) (fun fl s' hs => ?_) fun e s' hs => hs
  cases fl with
  | ret u =>
    obtain ⟨v, σ', H', I, rv, q⟩ := hs
    exact ⟨v, H', I.os, I.bare, I.base, I.hok, rv, q⟩
  | next =>
    obtain ⟨σ', H', I, q⟩ := hs
    exact ⟨V.non, H', I.os, I.bare, I.base, I.hok, rfl, q⟩
  | brk =>
    obtain ⟨_, _, _, q⟩ := hs
    exact q.elim
  | cont =>
    obtain ⟨_, _, _, q⟩ := hs
    exact q.elim
end
section
variable {X : Cx} {CX : CXT} {k : Nat} {f : Addr} {fd : FuncData} {ps : List Str} {sp : Sp} {dvs : List V} {ds : List Value} {E : XK} {x : Str} {p pos : Pos} {e : Expr} {es : List Expr} {t : TA}
theorem run_g {pins : List (Addr × Obj)} {σ : L2.St} {H : Hp} {s : Shared} {Q : VK} {us : List Value} {vs : List V}
    (F : FnG X.prog X.w X.K X.mg X.base CX k f fd ps sp) (ng : X.A.guards = some []) (hr : Room k X.A)
    (hb : Binds X.K fd ps ds) (hd : Vals dvs ds) (hx : Passes CX X E) (I : Inv X pins σ H s) (r : Vals vs us)
    (h : sp (vs ++ dvs) H Q E) : wpAny (model X.prog X.w) X.A (call (.ref f) us) (EP X pins σ Q) X.xe s := by
  have both : Vals (vs ++ dvs) (us ++ ds) := r.append hd
  have many : (us ++ ds).length = ps.length := both.length.symm.trans (F.size _ _ _ _ h)
  refine wpAny_call (codeAny_mono (F.goes X.A X.stack s H ⟨us, []⟩ (us ++ ds) (vs ++ dvs) Q E ng hr I.env0
    (hb s us I.kIn many) both h) fun res s' hq => ?_)
  cases res with
  | error er => exact hx pins σ H s er s' I hq
  | ok fl =>
    cases fl with
    | ret u => exact I.after hq
    | next => exact hq.elim
    | brk => exact hq.elim
    | cont => exact hq.elim
theorem pe_callG (F : FnG X.prog X.w X.K X.mg X.base CX k f fd ps sp) (ng : X.A.guards = some []) (hr : Room k X.A)
    (hg : Gl X x) (hm : X.mg x = some (.ref f)) (hk : PySem.W.keepIn X.K (.ref f) = true) (hb : Binds X.K fd ps ds)
    (hd : Vals dvs ds) (hx : Passes CX X E) (ha : PA X (e :: es) t) (hdb : (x == ("__debug__" : Str)) = false := by decide)
    (he : starEach (e :: es) X.env = (false, eval e X.env) :: starEach es X.env := by rfl)
    (hpl : (backTo pos (starEach es X.env)).any (·.1) = false := by rfl) :
    PE X (.Call (.Name x p) (e :: es) [] pos) (tCall sp dvs E t) := by
  refine ⟨fun pins s σ H Q I h => wpAny_Call_Name_kw (ld_glob I hg hm ?_ hdb)⟩
  exact PySem.W.callWith_K (h₀ := X.base) I.ok.mod.kin hk
    (thn (ha.run pos pins s σ H _ I h) fun us s1 ⟨vs, H1, I1, r, q⟩ => ⟨I1.kIn, run_g F ng hr hb hd hx I1 r q⟩) he hpl
end
/-! ### repr of data -/
section
variable {X : Cx} {pins : List (Addr × Obj)} {σ : L2.St} {H : Hp} {s : Shared}
/-- repr(x): the text of its data -/
def rRepr (K : PySem.W.Frag) : List V → Hp → VK → Prop := fun xs H Q => ∃ (v : V) (d : PyData), xs = [v] ∧ Dp K H v d ∧
  d.showable = true ∧ d.hasDict = false ∧ d.depth ≤ 60 ∧ d.shown.length ≤ sizeLine ∧ Q (.str d.shown) H
theorem call_reprD (ng : X.A.guards = some []) (hu : X.A.units + 64 < cLine) : CallR X (.builtin "repr") (rRepr X.K) := by
  intro pins s σ H xs us Q I r h
  obtain ⟨v, d, rfl, hd, hs, hn, hdep, hsz, q⟩ := h
  obtain ⟨u, rfl, ru⟩ := vals1 r
  obtain ⟨as, rd⟩ := Dp.reads I d v u hd ru
  cases hd with
  | non => cases ru; exact PySem.P.repr_of_none ⟨.str _, H, I.tok _, ⟨_, rfl⟩, q⟩
  | bl b =>
    cases ru
    exact PySem.P.repr_of_bool ⟨.str _, H, I.tok _, ⟨_, rfl⟩, q⟩
  | int i =>
    obtain ⟨t, rfl⟩ := ru
    exact PySem.P.repr_of_int (of_decide_eq_true hs) ⟨.str _, H, I.tok _, ⟨_, rfl⟩, q⟩
  | str z =>
    obtain ⟨t, rfl⟩ := ru
    exact PySem.P.repr_of_str ⟨.str _, H, I.tok _, ⟨_, rfl⟩, q⟩ hsz
  | lst a b =>
    cases ru
    exact repr_of_reads' rd hs (fun z => by rw [hn] at z; cases z) ng (by omega) (fun _ _ e => e)
      (fun h' t tk hk => ⟨.str _, H, I.kept (t' := tk) hk, ⟨t, rfl⟩, q⟩) hsz
  | tup a b =>
    cases ru
    exact repr_of_reads' rd hs (fun z => by rw [hn] at z; cases z) ng (by omega) (fun _ _ e => e)
      (fun h' t tk hk => ⟨.str _, H, I.kept (t' := tk) hk, ⟨t, rfl⟩, q⟩) hsz
/-- repr of a dict of numbers by a text -/
def oneD (z : Str) (n : Int) : PyData := .dict [(.str z, .int n)]
def rReprD : List V → Hp → VK → Prop := fun xs H Q => ∃ (a : Addr) (z : Str) (n : Int), xs = [.ref a] ∧ H a = some (.dK [(Sum.inr z, .int n)]) ∧
  (oneD z n).showable = true ∧ (oneD z n).shown.length ≤ sizeLine ∧ Q (.str (oneD z n).shown) H
end
/-! ### the end of a law whose def is kept by FnG -/
section
variable {P : Program} {w : World} {K : PySem.W.Frag} {mg mb : Str → Option Value} {k : Nat} {fa a : Addr} {fd : FuncData} {x : Str} {sp : Sp} {s1 : Shared} {vs : List Value} {ns : List Int}
/-- what the law's call has to come to -/
def Good (s1 : Shared) : Result → Shared → Prop := fun r s' =>
  r = .ok (.ret (.bool true)) ∧ OldK s1.heap s'.heap ∧ s'.os = s1.os ∧ AllBare s'.gens
theorem law_from (KX : K.In s1.heap) (hns : s1.heap.Ns mainGlobals mg) (hb : s1.heap.Ns builtinsNs mb)
    (hbb : ∀ y : Str, y ≠ "__name__" → mb y = bootBuiltins y) (hlim : s1.heap.NoLimit) (hg : s1.gens = #[])
    (ha : s1.heap.get? a = some { cls := .type "list", data := .seq vs.toArray }) (hr : Room k callerA)
    (F : ∀ base : Heap, K.In base → base.Ns mainGlobals mg → FnG P w K mg base CX0 k fa fd [x] sp)
    (bind : ∀ (s : Shared) (u : Value), BindsTo s fd ⟨[u], []⟩ [(x, u)])
    (H : Hp) (only : Only H) (want : sp [.ref a] H (fun v _ => v = .bl true) fun _ _ _ => False) (hok : HOk P w H s1.heap)
    (alone : ∀ b u, H b = some u → b = a) (apart : ∀ u, H a = some u → K.lookup a = none) :
    codeAny (model P w) callerA (.call (.ref fa) ⟨[.ref a], []⟩) (Good s1) s1 := by
  -- a dict is not the script
  have dct : ∀ {b : Addr} {o : Obj} {es : Array DictEntry} {ep : Nat}, s1.heap.get? b = some o → o.data = .dict es ep → H b = none := by
    intro b o es ep e d
    cases q : H b with
    | none => rfl
    | some u =>
      cases alone b u q
      rw [ha] at e
      cases e
      cases (show Data.seq vs.toArray _ = Data.dict es ep from d)
  have nsB : ∀ {b : Addr} {m : Str → Option Value}, s1.heap.Ns b m → (hidT s1.heap H).Ns b m := by
    rintro b m ⟨o, es, ep, e, d, r⟩
    exact ⟨o, es, ep, hidT_get e (dct e d), d, r⟩
  have inB : K.In (hidT s1.heap H) := by
    intro b o e
    refine hidT_get (KX b o e) ?_
    cases q : H b with
    | none => rfl
    | some u =>
      cases alone b u q
      rw [apart u q] at e
      cases e
  have mod : Mod K mg (hidT s1.heap H) := by
    obtain ⟨mc, l1, l2⟩ := hlim
    exact ⟨inB, nsB hns, ⟨mb, nsB hb, hbb⟩, mc, nsB l1, l2⟩
  have env : Env0 P w K mg (hidT s1.heap H) callerA [] s1 H :=
    ⟨rfl, mod, fun b o e => of_hidT e, Nat.le_of_eq (hidT_size _ _), trivial, fun b hb => absurd (show b ∈ ([] : List Addr) from hb) (by simp), hok, .of_eq hg⟩
  have run := (F _ inB (nsB hns)).goes callerA [] s1 H ⟨[.ref a], []⟩ [.ref a] [.ref a] _ _ rfl hr env (bind s1 (.ref a)) (.cons rfl .nil) want
  refine codeAny_mono run fun r s' h => ?_
  cases r with
  | error e => exact False.elim h
  | ok fl =>
    cases fl with
    | next => exact False.elim h
    | brk => exact False.elim h
    | cont => exact False.elim h
    | ret u =>
      obtain ⟨v, H', os, bare, un, hok', rv, q⟩ := h
      cases (show v = V.bl true from q)
      obtain rfl : u = Value.bool true := rv
      refine ⟨rfl, OldK.of_keep fun b o e => ?_, os, bare⟩
      rcases only b with n | ⟨ob, xs, z⟩
      · exact un.keep b o e n (by intro m; exact absurd (show b ∈ ([] : List Addr) from m) (by simp)) (by simp)
      · have then_ := un.frzs b ob _ z
        obtain ⟨e1, _⟩ := hok b _ z
        obtain ⟨e2, _⟩ := hok' b _ then_
        rw [e] at e1
        cases e1
        exact e2
theorem law_callG (KX : K.In s1.heap) (hns : s1.heap.Ns mainGlobals mg) (hb : s1.heap.Ns builtinsNs mb)
    (hbb : ∀ y : Str, y ≠ "__name__" → mb y = bootBuiltins y) (hlim : s1.heap.NoLimit) (hg : s1.gens = #[])
    (ha : s1.heap.get? a = some { cls := .type "list", data := .seq vs.toArray }) (hi : IntsAre vs ns) (hl : ns.length ≤ sizeLine) (hr : Room k callerA)
    (F : ∀ base : Heap, K.In base → base.Ns mainGlobals mg → FnG P w K mg base CX0 k fa fd [x] sp)
    (bind : ∀ (s : Shared) (u : Value), BindsTo s fd ⟨[u], []⟩ [(x, u)])
    (want : ∀ H : Hp, Only H → SqL K H a (ns.map V.int) → sp [.ref a] H (fun v _ => v = .bl true) fun _ _ _ => False) :
    codeAny (model P w) callerA (.call (.ref fa) ⟨[.ref a], []⟩) (Good s1) s1 := by
  have rv := vals_ints hi
  have many := hi.length
  cases hk : K.lookup a with
  | some o =>
    have e := KX a o hk
    rw [ha] at e
    cases e
    have o0 : Only fun _ => none := fun _ => .inl rfl
    refine law_from KX hns hb hbb hlim hg ha hr F bind (fun _ => none) o0 (want _ o0 (.inr ?_)) (fun b u z => by cases (show (none : Option HO) = some u from z)) (fun b u z => by cases (show (none : Option HO) = some u from z)) (fun u z => by cases (show (none : Option HO) = some u from z))
    exact ⟨_, vs.toArray, _, hk, rfl, rfl, rfl, by rw [List.size_toArray, many]; exact hl, by simpa using rv⟩
  | none =>
    have o1 : Only fun b => if b = a then some (.frz { cls := .type "list", data := .seq vs.toArray } (.lst (ns.map V.int))) else none := by
      intro b
      by_cases h : b = a
      · exact .inr ⟨_, _, if_pos h⟩
      · exact .inl (if_neg h)
    refine law_from KX hns hb hbb hlim hg ha hr F bind _ o1 (want _ o1 (.inl (.inr ⟨{ cls := .type "list", data := .seq vs.toArray }, if_pos rfl⟩))) (fun b u z => ?_) (fun b u z => ?_) fun _ _ => hk
    · by_cases h : b = a
      · subst h
        cases (if_pos rfl).symm.trans z
        exact ⟨ha, by rw [List.length_map]; exact hl, vs, _, rv, ha⟩
      · cases (if_neg h).symm.trans z
    · by_cases h : b = a
      · exact h
      · cases (if_neg h).symm.trans z
end
theorem walk_G {l : PySem.W.OpenLaw} {n k : Nat} {q : Program} {loose : List Str} {XP : (Str → Option Value) → Heap → Prop} {YP : World → Heap → Prop} {d : DefRec} {x : Str}
    (hn : l.most = some n) (small : n ≤ sizeLine) (nod : d.params.defaults = []) (hr : Room k callerA)
    (F : ∀ (w : World) (mg : Str → Option Value) (fa : Addr) (h : Heap), YP w h → h.Ns mainGlobals mg → mg d.name = some (.ref fa) →
      ∃ (K : PySem.W.Frag) (fd : FuncData) (sp : Sp), K.In h ∧ (∀ (s : Shared) (u : Value), BindsTo s fd ⟨[u], []⟩ [(x, u)]) ∧
        (∀ (H : Hp) (a : Addr) (ns : List Int), ns.length ≤ n → Only H → SqL K H a (ns.map V.int) → sp [.ref a] H (fun v _ => v = .bl true) fun _ _ _ => False) ∧
        ∀ base : Heap, K.In base → base.Ns mainGlobals mg → FnG l.prog w K mg base CX0 k fa fd [x] sp) :
    PySem.W.WalkO q loose XP YP l.row.toRowW d [] (fun f vs => PySem.call f vs) := by
  refine Att.attach_call hn nod fun w s₀ s₁ mg mb fa o pm cd doc a vs ns G Y ho hd hcd hmg hobj hints hlen hg => ?_
  obtain ⟨K, fd, sp, KX, bind, want, FF⟩ := F w mg fa _ Y G.T.g hmg
  exact law_callG KX G.T.g G.T.b G.T.builtins G.T.nolimit hg hobj hints (Nat.le_trans hlen small) hr FF bind fun H hO hS => want H a ns hlen hO hS
end AP
set_option maxHeartbeats 4000000
/-! An error's class called with its one keyword. -/
namespace PySem
end PySem
set_option maxHeartbeats 4000000
/-! Errors with an own __init__ as values: made, their kinds asked, their field read. -/
namespace AP
open PySem PySem.Spec PyProof.Rows L2
/-! ### C(..) as a value -/
/-- at x an error of the class at C with this value -/
def IsErr (C : Addr) (v x : V) (H : Hp) : Prop := ∃ a d, x = .ref a ∧ H a = some (exo a C (some d)) ∧ H d = some (exd d [("value", v)])
theorem IsErr.ex {C : Addr} {v x : V} {H H' : Hp} (e : Evl.Ex H H') (h : IsErr C v x H) : IsErr C v x H' := by
  obtain ⟨a, d, q, h1, h2⟩ := h
  exact ⟨a, d, q, e _ _ h1, e _ _ h2⟩
end AP
/-! ### the promises of the draws -/
namespace AP
open PySem PySem.Spec PyProof.Rows L2
theorem rest_of (x : Int) {n : Int} (h : 0 < n) : ∃ r, x % n = r ∧ 0 ≤ r ∧ r < n :=
  ⟨x % n, rfl, Int.emod_nonneg _ (by omega), Int.emod_lt_of_pos _ h⟩
theorem bits_small {b : Int} (h : 0 < b) (hb : b.natAbs < 2 ^ 8999) : (Builtin.Int.intBits b : Int) ≤ 8999 := by
  have := PyProof.Rows.intBits_le hb
  omega
theorem cut_ints (ns : List Int) (lo hi : Option Int) : ∃ ms : List Int, cutV (ns.map V.int) lo hi = ms.map V.int := by
  unfold cutV
  exact ⟨_, by rw [← List.map_drop, ← List.map_take]⟩
theorem pow_a : PowOk 10 18 := ⟨by decide, by decide +kernel⟩
theorem pow_b : PowOk 10 60 := ⟨by decide, by decide +kernel⟩
theorem pow_c : PowOk (10 ^ (60 : Int).toNat) 10 := ⟨by decide, by decide +kernel⟩
theorem pow_d : (0 : Int) < (10 ^ (60 : Int).toNat) ^ (10 : Int).toNat := by decide +kernel
/-- some number below 2 ** 31 -/
def spHash : Sp := fun vs H Q _ => ∃ s i : Int, vs = [.int s, .int i] ∧ 0 ≤ i ∧ i < 2 ^ 60 ∧ ∀ n : Int, 0 ≤ n → n < 2147483648 → Q (.int n) H
/-- a number below the bound; nothing changes but the generator -/
def spRandom : Sp := fun vs H Q _ => ∃ (g : Addr) (b x y z : Int), vs = [.ref g, .int b] ∧
  (H g = some (.lst [.int x, .int y, .int z]) ∧ 0 ≤ x ∧ 0 ≤ y ∧ 0 ≤ z ∧ z < 2 ^ 50) ∧ 0 < b ∧ b.natAbs < 2 ^ 8999 ∧
  ∀ (n x' z' : Int) (H' : Hp), 0 ≤ n → n < b → (H' g = some (.lst [.int x', .int y, .int z']) ∧ 0 ≤ x' ∧ 0 ≤ y ∧ 0 ≤ z' ∧ z' ≤ z + 300) →
    (∀ a, a ≠ g → H' a = H a) → z ≤ z' → Q (.int n) H'
/-- some number -/
def spCellA (K : PySem.W.Frag) : Sp := fun vs H Q _ => ∃ (a : Addr) (ns : List Int) (i : Nat), vs = [.ref a, .int i] ∧ SqL K H a (ns.map V.int) ∧
  ∀ (n : Int) (H' : Hp), Evl.Ex H H' → Q (.int n) H'
/-- a new generator -/
def spGenerator (K : PySem.W.Frag) : Sp := fun vs H Q _ => ∃ (a : Addr) (ns : List Int) (i : Nat), vs = [.ref a, .int i] ∧ SqL K H a (ns.map V.int) ∧ i ≤ 1000 ∧
  ∀ (p : Addr) (H' : Hp), H p = none → Evl.Ex H H' → (∃ x y z : Int, H' p = some (.lst [.int x, .int y, .int z]) ∧ 0 ≤ x ∧ (0 ≤ y ∧ y < 2147483648) ∧ 0 ≤ z ∧ z ≤ 1000000) → Q (.ref p) H'
end AP
set_option maxHeartbeats 4000000
/-! What evaluates to something of which a thing is told. -/
namespace AP
open PySem PySem.Spec PyProof.Rows L2 Evl
abbrev VP := V → Hp → Prop
/-- what stays when objects come beside -/
def Stays (P : VP) : Prop := ∀ x H H', Ex H H' → P x H → P x H'
/-- the values are told one by one -/
inductive Alls (H : Hp) : List VP → List V → Prop
  | nil : Alls H [] []
  | cons {P : VP} {Ps : List VP} {x : V} {xs : List V} : Stays P → P x H → Alls H Ps xs → Alls H (P :: Ps) (x :: xs)
theorem Alls.ex {H H' : Hp} (e : Ex H H') : ∀ {Ps : List VP} {xs : List V}, Alls H Ps xs → Alls H' Ps xs
  | _, _, .nil => .nil
  | _, _, .cons st h r => .cons st (st _ _ _ e h) (Alls.ex e r)
theorem Alls.app {H : Hp} : ∀ {Ps Qs : List VP} {xs ys : List V}, Alls H Ps xs → Alls H Qs ys → Alls H (Ps ++ Qs) (xs ++ ys)
  | _, _, _, _, .nil, h => h
  | _, _, _, _, .cons st h r, k => .cons st h (Alls.app r k)
theorem Alls.len {H : Hp} : ∀ {Ps : List VP} {xs : List V}, Alls H Ps xs → xs.length = Ps.length
  | _, _, .nil => rfl
  | _, _, .cons _ _ r => congrArg Nat.succ (Alls.len r)
theorem Alls.get {H : Hp} : ∀ {Ps : List VP} {xs : List V}, Alls H Ps xs → ∀ {i : Nat} {x : V}, xs[i]? = some x → ∃ P, Ps[i]? = some P ∧ P x H
  | _, _, .nil, _, _, h => by cases h
  | _, _, .cons _ h r, 0, _, e => by cases e; exact ⟨_, rfl, h⟩
  | _, _, .cons _ h r, i + 1, _, e => Alls.get r (i := i) e
def Evp (te : TE) (σ : L2.St) (H : Hp) (P : VP) : Prop := ∀ H1, Ex H H1 → ∀ Q : VK, (∀ x H2, Ex H1 H2 → P x H2 → Q x H2) → te σ H1 Q
section
variable {K : PySem.W.Frag} {σ : L2.St} {H H' : Hp} {ta tb te : TE} {P : VP} {Ps Qs : List VP} {v : V} {tr : TA} {D : Ends} {tz : TS}
theorem Evp.of (h : Ev te σ H v) : Evp te σ H fun x _ => x = v := fun H1 e Q q => h H1 e Q fun H2 e2 => q v H2 e2 rfl
/-! ### isinstance, fields, equality, repr, as what evaluates -/
/-- at a an error of the class at C, whatever it carries -/
def SomeErr (C a : Addr) (H : Hp) : Prop := (∃ d fs, H a = some (exo a C (some d)) ∧ H d = some (exd d fs)) ∨ H a = some (ExO (.ref C) a)
theorem SomeErr.ex {C a : Addr} (e : Ex H H') (h : SomeErr C a H) : SomeErr C a H' := by
  rcases h with ⟨d, fs, h1, h2⟩ | h
  · exact .inl ⟨d, fs, e _ _ h1, e _ _ h2⟩
  · exact .inr (e _ _ h)
end
/-- a value that shows and that is equal to itself -/
def Fine (K : PySem.W.Frag) (v : V) (H : Hp) : Prop :=
  (∃ d, Dp K H v d ∧ SeqAt.shaped d = true ∧ d.showable = true ∧ d.hasDict = false ∧ d.depth ≤ 60 ∧ d.shown.length ≤ sizeLine) ∨
    ∃ (a : Addr) (z : Str) (n : Int), v = .ref a ∧ H a = some (.dK [(Sum.inr z, .int n)]) ∧ (oneD z n).showable = true ∧ (oneD z n).shown.length ≤ sizeLine
mutual
theorem dp_ex {K : PySem.W.Frag} {H H' : Hp} (e : Ex H H') : ∀ {v : V} {d : PyData}, Dp K H v d → Dp K H' v d
  | _, _, .non => .non
  | _, _, .bl b => .bl b
  | _, _, .int i => .int i
  | _, _, .str x => .str x
  | _, _, .lst h k => .lst (ex_l e h) (dpAll_ex e k)
  | _, _, .tup h k => .tup (ex_t e h) (dpAll_ex e k)
theorem dpAll_ex {K : PySem.W.Frag} {H H' : Hp} (e : Ex H H') : ∀ {vs : List V} {ds : List PyData}, DpAll K H vs ds → DpAll K H' vs ds
  | _, _, .nil => .nil
  | _, _, .cons h k => .cons (dp_ex e h) (dpAll_ex e k)
end
theorem Fine.ex {K : PySem.W.Frag} {v : V} {H H' : Hp} (e : Ex H H') (h : Fine K v H) : Fine K v H' := by
  rcases h with ⟨d, h, r⟩ | ⟨a, z, n, q, h, r⟩
  · exact .inl ⟨d, dp_ex e h, r⟩
  · exact .inr ⟨a, z, n, q, e _ _ h, r⟩
/-- repr of such a value -/
abbrev rRep (K : PySem.W.Frag) : List V → Hp → VK → Prop := fun xs H Q => rRepr K xs H Q ∨ rReprD xs H Q
def shownF (K : PySem.W.Frag) (v : V) (t : Str) (H : Hp) : Prop := ∀ H', Ex H H' → ∀ Q : VK, Q (.str t) H' → rRep K [v] H' Q
theorem Fine.shown {K : PySem.W.Frag} {v : V} {H : Hp} (h : Fine K v H) : ∃ t, shownF K v t H := by
  rcases h with ⟨d, h, s1, s2, s3, s4, s5⟩ | ⟨a, z, n, rfl, h, s1, s2⟩
  · exact ⟨d.shown, fun H' e Q q => .inl ⟨v, d, rfl, dp_ex e h, s2, s3, s4, s5, q⟩⟩
  · exact ⟨(oneD z n).shown, fun H' e Q q => .inr ⟨a, z, n, rfl, e _ _ h, s1, s2, q⟩⟩
/-- == of a value with itself -/
def rEqDict : R2 := fun x y H Q => ∃ a b kvs, x = .ref a ∧ y = .ref b ∧ H a = some (.dK kvs) ∧ H b = some (.dK kvs) ∧ (kvs.map (·.1)).Nodup ∧ (∀ p ∈ kvs, flatB p.2 = true) ∧ Q (.bl true) H
abbrev rSame (K : PySem.W.Frag) : R2 := fun x y H Q => rEqD K x y H Q ∨ rEqDict x y H Q
theorem Fine.same {K : PySem.W.Frag} {v : V} {H : Hp} (h : Fine K v H) : RV (rSame K) v v H (.bl true) := fun H1 e Q q => by
  rcases h with ⟨d, h, s1, _⟩ | ⟨a, z, n, rfl, h, _⟩
  · refine .inl ⟨d, d, dp_ex e h, dp_ex e h, s1, s1, ?_⟩
    rw [SeqAt.eqv_refl d (SeqAt.canLay_of_shaped s1)]
    exact q H1 (Ex.refl H1)
  · exact .inr ⟨a, a, _, rfl, rfl, e _ _ h, e _ _ h, by simp, by simp [flatB], q H1 (Ex.refl H1)⟩
/-! ### loops over enumerate -/
/-! ### an error without an __init__ of its own -/
end AP
set_option maxHeartbeats 4000000
/-! What an expression evaluates to, told by values of Lean's own: the heap stands behind. -/
namespace AP
open PySem PySem.Spec PyProof.Rows L2 Evl
/-! ### the state: what stays (B), the generator of draws, how many draws there were -/
def Gn (g : Addr) (z : Int) (H : Hp) : Prop := ∃ x y : Int, H g = some (.lst [.int x, .int y, .int z]) ∧ 0 ≤ x ∧ 0 ≤ y ∧ y < 2147483648 ∧ 0 ≤ z
structure At (G : Option Addr) (z : Int) (B H : Hp) : Prop where
  ex : Ex B H
  gen : ∀ g, G = some g → B g = none ∧ Gn g z H
/-- not there before, or a tuple that was -/
def NewT (H : Hp) (a : Addr) (o : HO) : Prop := H a = none ∨ ∃ xs, o = .tup xs ∧ H a = some o
theorem NewT.no {H : Hp} {a : Addr} {o u : HO} (h : NewT H a o) (hl : H a = some u) (nt : ∀ xs, u ≠ .tup xs := by intro _ q; cases q) : False := by
  rcases h with h | ⟨xs, e, h⟩
  · rw [hl] at h; cases h
  · rw [hl] at h; cases h; exact nt xs e
theorem NewT.back {H H1 : Hp} {b : Addr} {o : HO} (h : NewT H1 b o) (e : Ex H H1) : NewT H b o := by
  cases q : H b with
  | none => exact .inl q
  | some u =>
    have q1 := e b u q
    rcases h with h | ⟨xs, r, h⟩
    · rw [q1] at h; cases h
    · rw [q1] at h; cases h; exact .inr ⟨xs, r, q⟩
structure Nx (G : Option Addr) (c : Nat) (z : Int) (B H : Hp) (z' : Int) (B' H' : Hp) : Prop where
  at_ : At G z' B' H'
  up : Ex B B'
  new : ∀ a o, B' a = some o → B a = some o ∨ NewT H a o
  lo : z ≤ z'
  hi : z' ≤ z + c
  keep : ∀ a o, G ≠ some a → H a = some o → H' a = some o
section
variable {G : Option Addr} {c c1 c2 : Nat} {z z' z0 z1 z2 : Int} {B B' H H' B0 H0 B1 H1 B2 H2 : Hp}
theorem Nx.refl (s : At G z B H) : Nx G 0 z B H z B H := ⟨s, Ex.refl B, fun _ _ h => .inl h, by omega, by omega, fun _ _ _ h => h⟩
theorem Nx.gone (a : Nx G c z B H z' B' H') (s : At G z B H) {x : Addr} (h : H' x = none) : H x = none := by
  cases e : H x with
  | none => rfl
  | some o =>
    by_cases hg : G = some x
    · obtain ⟨_, _, _, q, _⟩ := a.at_.gen x hg
      rw [q] at h
      cases h
    · rw [a.keep x o hg e] at h
      cases h
theorem Nx.trans (s : At G z0 B0 H0) (a : Nx G c1 z0 B0 H0 z1 B1 H1) (b : Nx G c2 z1 B1 H1 z2 B2 H2) : Nx G (c1 + c2) z0 B0 H0 z2 B2 H2 := by
  refine ⟨b.at_, a.up.trans b.up, fun x o h => ?_, Int.le_trans a.lo b.lo, ?_, fun x o hg h => b.keep x o hg (a.keep x o hg h)⟩
  · rcases b.new x o h with h | h
    · exact a.new x o h
    · rcases h with h | ⟨xs, e, h⟩
      · exact .inr (.inl (a.gone s h))
      · cases q : H0 x with
        | none => exact .inr (.inl q)
        | some u =>
          by_cases hg : G = some x
          · obtain ⟨_, _, _, q2, _⟩ := a.at_.gen x hg
            rw [h, e] at q2
            cases q2
          · have := a.keep x u hg q
            rw [h] at this
            cases this
            exact .inr (.inr ⟨xs, e, q⟩)
  · have := a.hi
    have := b.hi
    omega
theorem Nx.le (a : Nx G c1 z B H z' B' H') (h : c1 ≤ c2) : Nx G c2 z B H z' B' H' := ⟨a.at_, a.up, a.new, a.lo, by have := a.hi; omega, a.keep⟩
theorem Nx.alloc {p : Addr} {o : HO} (s : At G z B H) (h : H p = none) : Nx G 0 z B H z (upd B p o) (upd H p o) := by
  have hB : B p = none := by
    cases e : B p with
    | none => rfl
    | some u => rw [s.ex p u e] at h; cases h
  refine ⟨⟨fun a u e => ?_, fun g hg => ?_⟩, Ex.new hB, fun a u e => ?_, by omega, by omega, fun a u _ e => Ex.new h a u e⟩
  · by_cases ha : a = p
    · subst ha
      rw [upd_same] at e ⊢
      exact e
    · rw [upd_ne ha] at e ⊢
      exact s.ex a u e
  · obtain ⟨h1, x, y, q, r⟩ := s.gen g hg
    have ne : g ≠ p := ne_of_none q h
    exact ⟨by rw [upd_ne ne]; exact h1, x, y, by rw [upd_ne ne]; exact q, r⟩
  · by_cases ha : a = p
    · subst ha
      exact .inr (.inl h)
    · rw [upd_ne ha] at e
      exact .inl e
/-- more in the heap, nothing new that is known -/
theorem Nx.more (s : At G z B H) (e : Ex H H') : Nx G 0 z B H z B H' :=
  ⟨⟨s.ex.trans e, fun g hg => ⟨(s.gen g hg).1, by obtain ⟨_, x, y, q, r⟩ := s.gen g hg; exact ⟨x, y, e _ _ q, r⟩⟩⟩, Ex.refl B, fun _ _ h => .inl h, by omega, by omega, fun a o _ h => e a o h⟩
end
/-! ### values of Lean for values of Python -/
class Py (α : Type) where
  is : α → V → Hp → Prop
  st : ∀ (x : α) (v : V) (B B' : Hp), Ex B B' → is x v B → is x v B'
theorem Py.stays {α : Type} [Py α] (x : α) : Stays (Py.is x) := fun v B B' e h => Py.st x v B B' e h
instance : Py Int := ⟨fun n v _ => v = .int n, fun _ _ _ _ _ h => h⟩
instance : Py Bool := ⟨fun n v _ => v = .bl n, fun _ _ _ _ _ h => h⟩
instance : Py Str := ⟨fun n v _ => v = .str n, fun _ _ _ _ _ h => h⟩
instance : Py Unit := ⟨fun _ v _ => v = .non, fun _ _ _ _ _ h => h⟩
inductive Each {α : Type} [Py α] (B : Hp) : List α → List V → Prop
  | nil : Each B [] []
  | cons {x : α} {v : V} {xs : List α} {vs : List V} : Py.is x v B → Each B xs vs → Each B (x :: xs) (v :: vs)
section
variable {α β : Type} [Py α] [Py β]
theorem Each.ex {B B' : Hp} (e : Ex B B') : ∀ {xs : List α} {vs : List V}, Each B xs vs → Each B' xs vs
  | _, _, .nil => .nil
  | _, _, .cons h r => .cons (Py.st _ _ _ _ e h) (Each.ex e r)
theorem Each.len {B : Hp} : ∀ {xs : List α} {vs : List V}, Each B xs vs → vs.length = xs.length
  | _, _, .nil => rfl
  | _, _, .cons _ r => congrArg Nat.succ (Each.len r)
theorem Each.app {B : Hp} : ∀ {xs ys : List α} {vs ws : List V}, Each B xs vs → Each B ys ws → Each B (xs ++ ys) (vs ++ ws)
  | _, _, _, _, .nil, h => h
  | _, _, _, _, .cons h r, k => .cons h (Each.app r k)
theorem Each.get {B : Hp} : ∀ {xs : List α} {vs : List V}, Each B xs vs → ∀ {i : Nat} {x : α}, xs[i]? = some x → ∃ v, vs[i]? = some v ∧ Py.is x v B
  | _, _, .nil, _, _, h => by cases h
  | _, _, .cons h r, 0, _, e => by cases e; exact ⟨_, rfl, h⟩
  | _, _, .cons _ r, i + 1, _, e => Each.get r (i := i) e
theorem Each.got {B : Hp} : ∀ {xs : List α} {vs : List V}, Each B xs vs → ∀ {i : Nat} {v : V}, vs[i]? = some v → ∃ x, xs[i]? = some x ∧ Py.is x v B
  | _, _, .nil, _, _, h => by cases h
  | _, _, .cons h r, 0, _, e => by cases e; exact ⟨_, rfl, h⟩
  | _, _, .cons _ r, i + 1, _, e => Each.got r (i := i) e
theorem Each.drop {B : Hp} : ∀ (n : Nat) {xs : List α} {vs : List V}, Each B xs vs → Each B (xs.drop n) (vs.drop n)
  | 0, _, _, h => h
  | n + 1, _, _, .nil => .nil
  | n + 1, _, _, .cons _ r => Each.drop n r
theorem Each.take {B : Hp} : ∀ (n : Nat) {xs : List α} {vs : List V}, Each B xs vs → Each B (xs.take n) (vs.take n)
  | 0, _, _, _ => .nil
  | n + 1, _, _, .nil => .nil
  | n + 1, _, _, .cons h r => .cons h (Each.take n r)
theorem Each.snoc {B : Hp} {xs : List α} {vs : List V} {x : α} {v : V} (h : Each B xs vs) (k : Py.is x v B) : Each B (xs ++ [x]) (vs ++ [v]) := h.app (.cons k .nil)
theorem Each.rev {B : Hp} : ∀ {xs : List α} {vs : List V}, Each B xs vs → Each B xs.reverse vs.reverse
  | _, _, .nil => .nil
  | _, _, .cons h r => by
    rw [List.reverse_cons, List.reverse_cons]
    exact (Each.rev r).snoc h
theorem Each.ints {B : Hp} : ∀ {ns : List Int} {vs : List V}, Each B ns vs → vs = ns.map V.int
  | _, _, .nil => rfl
  | _, _, .cons h r => by
    rw [List.map_cons, ← Each.ints r, ← (show _ = V.int _ from h)]
theorem Each.bls {B : Hp} : ∀ {ns : List Bool} {vs : List V}, Each B ns vs → vs = ns.map V.bl
  | _, _, .nil => rfl
  | _, _, .cons h r => by
    rw [List.map_cons, ← Each.bls r, ← (show _ = V.bl _ from h)]
theorem Each.of_ints {B : Hp} : ∀ (ns : List Int), Each B ns (ns.map V.int)
  | [] => .nil
  | _ :: r => .cons rfl (Each.of_ints r)
instance : Py (List α) := ⟨fun xs v B => ∃ p vs, v = .ref p ∧ B p = some (.lst vs) ∧ Each B xs vs, fun _ _ _ _ e ⟨p, vs, h1, h2, h3⟩ => ⟨p, vs, h1, e _ _ h2, h3.ex e⟩⟩
instance : Py (α × β) := ⟨fun x v B => ∃ p a b, v = .ref p ∧ B p = some (.tup [a, b]) ∧ Py.is x.1 a B ∧ Py.is x.2 b B, fun _ _ _ _ e ⟨p, a, b, h1, h2, h3, h4⟩ => ⟨p, a, b, h1, e _ _ h2, Py.st _ _ _ _ e h3, Py.st _ _ _ _ e h4⟩⟩
end
theorem Py.ints {ns : List Int} {v : V} {B : Hp} (h : Py.is ns v B) : ∃ p, v = .ref p ∧ B p = some (.lst (ns.map V.int)) := by
  obtain ⟨p, vs, e1, e2, e3⟩ := h
  rw [e3.ints] at e2
  exact ⟨p, e1, e2⟩
theorem Py.of_ints {ns : List Int} {p : Addr} {B : Hp} (h : B p = some (.lst (ns.map V.int))) : Py.is ns (.ref p) B := ⟨p, _, rfl, h, .of_ints ns⟩
/-- the generator -/
structure GenR where
  at_ : Addr
instance : Py GenR := ⟨fun r v _ => v = .ref r.at_, fun _ _ _ _ _ h => h⟩
/-! ### what the slots hold -/
abbrev Ctx := List (Option VP)
structure Slo (B : Hp) (σ : L2.St) (Γ : Ctx) : Prop where
  len : σ.length = Γ.length
  all : ∀ (i : Nat) (P : VP), Γ[i]? = some (some P) → ∃ v, σ[i]? = some (some v) ∧ Stays P ∧ P v B
section
variable {B B' : Hp} {σ : L2.St} {Γ : Ctx} {P : VP} {v : V} {i : Nat}
theorem Slo.up (e : Ex B B') (h : Slo B σ Γ) : Slo B' σ Γ := ⟨h.len, fun i P q => by
  obtain ⟨v, h1, h2, h3⟩ := h.all i P q
  exact ⟨v, h1, h2, h2 _ _ _ e h3⟩⟩
theorem Slo.set (h : Slo B σ Γ) (st : Stays P) (p : P v B) : Slo B (σ.set i (some v)) (Γ.set i (some P)) := ⟨by rw [List.length_set, List.length_set, h.len], fun j R q => by
  by_cases e : i = j
  · subst e
    by_cases lt : i < Γ.length
    · rw [List.getElem?_set_self lt] at q
      cases q
      exact ⟨v, List.getElem?_set_self (by rw [h.len]; exact lt), st, p⟩
    · rw [List.getElem?_eq_none (by rw [List.length_set]; omega)] at q
      cases q
  · rw [List.getElem?_set_ne e] at q
    obtain ⟨w, h1, h2⟩ := h.all j R q
    exact ⟨w, by rw [List.getElem?_set_ne e]; exact h1, h2⟩⟩
theorem Slo.put {α : Type} [Py α] {x : α} (h : Slo B σ Γ) (p : Py.is x v B) : Slo B (σ.set i (some v)) (Γ.set i (some (Py.is x))) := h.set (Py.stays x) p
def wipeC (Γ : Ctx) : List Nat → Ctx
  | [] => Γ
  | v :: vs => (wipeC Γ vs).set v none
theorem Slo.none (h : Slo B σ Γ) {o : Option V} : Slo B (σ.set i o) (Γ.set i Option.none) := ⟨by rw [List.length_set, List.length_set, h.len], fun j R q => by
  by_cases e : i = j
  · subst e
    by_cases lt : i < Γ.length
    · rw [List.getElem?_set_self lt] at q
      cases q
    · rw [List.getElem?_eq_none (by rw [List.length_set]; omega)] at q
      cases q
  · rw [List.getElem?_set_ne e] at q
    obtain ⟨w, h1, h2⟩ := h.all j R q
    exact ⟨w, by rw [List.getElem?_set_ne e]; exact h1, h2⟩⟩
theorem Slo.wipe (h : Slo B σ Γ) : ∀ vs : List Nat, Slo B (L2.wipe σ vs) (wipeC Γ vs)
  | [] => h
  | v :: vs => (Slo.wipe h vs).none
theorem Alls.stays {H : Hp} : ∀ {Ps : List VP} {xs : List V}, Alls H Ps xs → ∀ {i : Nat} {P : VP}, Ps[i]? = some P → ∃ v, xs[i]? = some v ∧ Stays P ∧ P v H
  | _, _, .nil, _, _, h => by cases h
  | _, _, .cons st h r, 0, _, e => by cases e; exact ⟨_, rfl, st, h⟩
  | _, _, .cons _ h r, i + 1, _, e => Alls.stays r (i := i) e
def ctx0 (n : Nat) (Ps : List VP) : Ctx := Ps.map some ++ List.replicate (n - Ps.length) Option.none
theorem Slo.start {N : List Str} {vs : List V} {Ps : List VP} (h : Alls B Ps vs) : Slo B (L2.start N vs) (ctx0 N.length Ps) := by
  have hl := h.len
  refine ⟨?_, fun i P q => ?_⟩
  · unfold L2.start ctx0
    simp [hl]
  · unfold ctx0 at q
    unfold L2.start
    by_cases lt : i < Ps.length
    · rw [List.getElem?_append_left (by rw [List.length_map]; exact lt), List.getElem?_map] at q
      cases e : Ps[i]? with
      | none => rw [e] at q; cases q
      | some R =>
        rw [e] at q
        cases q
        obtain ⟨v, h1, h2⟩ := h.stays e
        exact ⟨v, by rw [List.getElem?_append_left (by rw [List.length_map, hl]; exact lt), List.getElem?_map, h1] <;> rfl, h2⟩
    · rw [List.getElem?_append_right (by rw [List.length_map]; omega)] at q
      rw [List.getElem?_replicate] at q
      split at q <;> cases q
end
/-! ### the judgements -/
def Ty (G : Option Addr) (c : Nat) (te : TE) (Γ : Ctx) {α : Type} [Py α] (A : α → Prop) : Prop :=
  ∀ z B σ H, Slo B σ Γ → At G z B H → z + c ≤ 2 ^ 50 → ∀ Q : VK, (∀ x v z' B' H', A x → Nx G c z B H z' B' H' → Py.is x v B' → Q v H') → te σ H Q
def TyT (G : Option Addr) (c : Nat) (tt : TT) (Γ : Ctx) (A : Bool → Prop) : Prop :=
  ∀ z B σ H, Slo B σ Γ → At G z B H → z + c ≤ 2 ^ 50 → ∀ Q : Bool → Hp → Prop, (∀ b z' B' H', A b → Nx G c z B H z' B' H' → Q b H') → tt σ H Q
def TyA (G : Option Addr) (c : Nat) (ta : TA) (Γ : Ctx) (Ps : List VP) : Prop :=
  ∀ z B σ H, Slo B σ Γ → At G z B H → z + c ≤ 2 ^ 50 → ∀ Q : List V → Hp → Prop, (∀ vs z' B' H', Alls B' Ps vs → Nx G c z B H z' B' H' → Q vs H') → ta σ H Q
/-- some value of these -/
def isA {α : Type} [Py α] (A : α → Prop) : VP := fun v B => ∃ x, A x ∧ Py.is x v B
theorem isA.stays {α : Type} [Py α] (A : α → Prop) : Stays (isA A) := fun _ _ _ e ⟨x, h1, h2⟩ => ⟨x, h1, Py.st _ _ _ _ e h2⟩
/-- a two-place operation on values -/
def Rv (G : Option Addr) (r : R2) (v w : V) (B : Hp) {α : Type} [Py α] (A : α → Prop) : Prop :=
  ∀ z B' H, Ex B B' → At G z B' H → ∀ Q : VK, (∀ x u z' B'' H', A x → Nx G 0 z B' H z' B'' H' → Py.is x u B'' → Q u H') → r v w H Q
def Ru (G : Option Addr) (r : V → Hp → VK → Prop) (v : V) (B : Hp) {α : Type} [Py α] (A : α → Prop) : Prop :=
  ∀ z B' H, Ex B B' → At G z B' H → ∀ Q : VK, (∀ x u z' B'' H', A x → Nx G 0 z B' H z' B'' H' → Py.is x u B'' → Q u H') → r v H Q
def Rc (G : Option Addr) (r : List V → Hp → VK → Prop) (vs : List V) (B : Hp) {α : Type} [Py α] (A : α → Prop) : Prop :=
  ∀ z B' H, Ex B B' → At G z B' H → ∀ Q : VK, (∀ x u z' B'' H', A x → Nx G 0 z B' H z' B'' H' → Py.is x u B'' → Q u H') → r vs H Q
section
variable {G : Option Addr} {c c1 c2 c3 : Nat} {te ta tb tx : TE} {tt tu : TT} {Γ : Ctx} {α β γ : Type} [Py α] [Py β] [Py γ] {A A' : α → Prop} {A1 : β → Prop} {A2 : γ → Prop} {Ps : List VP} {tr : TA}
theorem Ty.imp (h : Ty G c te Γ A) (i : ∀ x, A x → A' x) : Ty G c te Γ A' := fun z B σ H en s hz Q q => h z B σ H en s hz Q fun x v z' B' H' a => q x v z' B' H' (i x a)
theorem Ty.to {x y : α} (h : Ty G c te Γ (· = x)) (e : x = y) : Ty G c te Γ (· = y) := e ▸ h
theorem TyT.to {x y : Bool} (h : TyT G c tt Γ (· = x)) (e : x = y) : TyT G c tt Γ (· = y) := e ▸ h
theorem TyT.imp {A A' : Bool → Prop} (h : TyT G c tt Γ A) (i : ∀ x, A x → A' x) : TyT G c tt Γ A' := fun z B σ H en s hz Q q => h z B σ H en s hz Q fun x z' B' H' a => q x z' B' H' (i x a)
theorem Ty.le (h : Ty G c1 te Γ A) (i : c1 ≤ c2) : Ty G c2 te Γ A := fun z B σ H en s hz Q q => h z B σ H en s (by omega) Q fun x v z' B' H' a n => q x v z' B' H' a (n.le i)
theorem TyT.le {A : Bool → Prop} (h : TyT G c1 tt Γ A) (i : c1 ≤ c2) : TyT G c2 tt Γ A := fun z B σ H en s hz Q q => h z B σ H en s (by omega) Q fun x z' B' H' a n => q x z' B' H' a (n.le i)
theorem ty_var {i : Nat} {x : α} (e : Γ[i]? = some (some (Py.is x))) : Ty G 0 (tVar i) Γ (· = x) := fun z B σ H en s _ Q q => by
  obtain ⟨v, h1, _, h2⟩ := en.all i _ e
  exact ⟨v, h1, q x v z B H rfl (.refl s) h2⟩
theorem ty_i {n : Int} : Ty G 0 (tC (.int n)) Γ (· = n) := fun z B σ H en s _ Q q => q n _ z B H rfl (.refl s) rfl
theorem ty_b {n : Bool} : Ty G 0 (tC (.bl n)) Γ (· = n) := fun z B σ H en s _ Q q => q n _ z B H rfl (.refl s) rfl
theorem ty_n : Ty G 0 (tC .non) Γ (· = ()) := fun z B σ H en s _ Q q => q () _ z B H rfl (.refl s) rfl
theorem ty_s {n : Str} : Ty G 0 (tC (.str n)) Γ (· = n) := fun z B σ H en s _ Q q => q n _ z B H rfl (.refl s) rfl
theorem ty_op {r : R2} (ha : Ty G c1 ta Γ A) (hb : Ty G c2 tb Γ A1) (hr : ∀ x y v w B, A x → A1 y → Py.is x v B → Py.is y w B → Rv G r v w B A2) : Ty G (c1 + c2) (tOp r ta tb) Γ A2 := fun z B σ H en s hz Q q => by
  refine ha z B σ H en s (by omega) _ fun x v z1 B1 H1 ax n1 hv => ?_
  refine hb z1 B1 σ H1 (en.up n1.up) n1.at_ (by have := n1.hi; omega) _ fun y w z2 B2 H2 ay n2 hw => ?_
  refine hr x y v w B2 ax ay (Py.st _ _ _ _ n2.up hv) hw z2 B2 H2 (Ex.refl _) n2.at_ _ fun u m z3 B3 H3 au n3 hm => ?_
  exact q u m z3 B3 H3 au (((n1.trans s n2).trans s n3).le (by omega)) hm
theorem ty_un {r : V → Hp → VK → Prop} (ha : Ty G c ta Γ A) (hr : ∀ x v B, A x → Py.is x v B → Ru G r v B A1) : Ty G c (tUn r ta) Γ A1 := fun z B σ H en s hz Q q => by
  refine ha z B σ H en s hz _ fun x v z1 B1 H1 ax n1 hv => ?_
  refine hr x v B1 ax hv z1 B1 H1 (Ex.refl _) n1.at_ _ fun u m z3 B3 H3 au n3 hm => ?_
  exact q u m z3 B3 H3 au ((n1.trans s n3).le (by omega)) hm
theorem ta_nil : TyA G 0 tNil Γ [] := fun z B σ H en s _ Q q => q [] z B H .nil (.refl s)
theorem ta_consN (h : Ty G c1 te Γ A) (hr : TyA G c2 tr Γ Ps) : TyA G (c1 + c2) (tCons te tr) Γ (isA A :: Ps) := fun z B σ H en s hz Q q => by
  refine h z B σ H en s (by omega) _ fun x v z1 B1 H1 ax n1 hv => ?_
  refine hr z1 B1 σ H1 (en.up n1.up) n1.at_ (by have := n1.hi; omega) _ fun vs z2 B2 H2 al n2 => ?_
  exact q _ z2 B2 H2 (.cons (isA.stays A) ⟨x, ax, Py.st _ _ _ _ n2.up hv⟩ al) (n1.trans s n2)
theorem ta_cons {x : α} (h : Ty G c1 te Γ (· = x)) (hr : TyA G c2 tr Γ Ps) : TyA G (c1 + c2) (tCons te tr) Γ (Py.is x :: Ps) := fun z B σ H en s hz Q q => by
  refine h z B σ H en s (by omega) _ fun y v z1 B1 H1 ax n1 hv => ?_
  subst ax
  refine hr z1 B1 σ H1 (en.up n1.up) n1.at_ (by have := n1.hi; omega) _ fun vs z2 B2 H2 al n2 => ?_
  exact q _ z2 B2 H2 (.cons (Py.stays _) (Py.st _ _ _ _ n2.up hv) al) (n1.trans s n2)
theorem ty_cb {r : List V → Hp → VK → Prop} (ha : TyA G c tr Γ Ps) (hr : ∀ vs B, Alls B Ps vs → Rc G r vs B A) : Ty G c (tCB r tr) Γ A := fun z B σ H en s hz Q q => by
  refine ha z B σ H en s hz _ fun vs z1 B1 H1 al n1 => ?_
  refine hr vs B1 al z1 B1 H1 (Ex.refl _) n1.at_ _ fun u m z3 B3 H3 au n3 hm => ?_
  exact q u m z3 B3 H3 au ((n1.trans s n3).le (by omega)) hm
/-! tests -/
theorem tt_test {A : Bool → Prop} (h : Ty G c te Γ A) : TyT G c (tTest te) Γ A := fun z B σ H en s hz Q q => h z B σ H en s hz _ fun x v z' B' H' ax n hv => ⟨x, hv, q x z' B' H' ax n⟩
theorem tt_B {A : Bool → Prop} (h : Ty G c te Γ A) : TyT G c (tB te) Γ A := fun z B σ H en s hz Q q => h z B σ H en s hz _ fun x v z' B' H' ax n hv => ⟨x, hv, q x z' B' H' ax n⟩
theorem tt_not {A : Bool → Prop} (h : TyT G c tt Γ A) : TyT G c (tNot tt) Γ (fun b => A (!b)) := fun z B σ H en s hz Q q => h z B σ H en s hz _ fun x z' B' H' ax n => q (!x) z' B' H' (by show A (!!x); rw [Bool.not_not]; exact ax) n
theorem tt_notD {b : Bool} (h : TyT G c tt Γ (· = b)) : TyT G c (tNot tt) Γ (· = !b) := (tt_not h).imp fun x e => by rw [← e, Bool.not_not]
theorem tt_yes : TyT G 0 tYes Γ (· = true) := fun z B σ H en s _ Q q => q true z B H rfl (.refl s)
theorem tt_and {a b : Bool} (h1 : TyT G c1 tt Γ (· = a)) (h2 : a = true → TyT G c2 tu Γ (· = b)) : TyT G (c1 + c2) (tAnd tt tu) Γ (· = (a && b)) := fun z B σ H en s hz Q q => by
  refine h1 z B σ H en s (by omega) _ fun x z1 B1 H1 ax n1 => ?_
  subst ax
  cases x with
  | true =>
    show tu σ H1 Q
    refine h2 rfl z1 B1 σ H1 (en.up n1.up) n1.at_ (by have := n1.hi; omega) _ fun y z2 B2 H2 ay n2 => ?_
    exact q y z2 B2 H2 ay (n1.trans s n2)
  | false =>
    show Q false H1
    exact q false z1 B1 H1 rfl (n1.le (by omega))
theorem tt_or {a b : Bool} (h1 : TyT G c1 tt Γ (· = a)) (h2 : a = false → TyT G c2 tu Γ (· = b)) : TyT G (c1 + c2) (tOr tt tu) Γ (· = (a || b)) := fun z B σ H en s hz Q q => by
  refine h1 z B σ H en s (by omega) _ fun x z1 B1 H1 ax n1 => ?_
  subst ax
  cases x with
  | false =>
    show tu σ H1 Q
    refine h2 rfl z1 B1 σ H1 (en.up n1.up) n1.at_ (by have := n1.hi; omega) _ fun y z2 B2 H2 ay n2 => ?_
    exact q y z2 B2 H2 ay (n1.trans s n2)
  | true =>
    show Q true H1
    exact q true z1 B1 H1 rfl (n1.le (by omega))
theorem ty_andV {a b : Bool} (h1 : Ty G c1 ta Γ (· = a)) (h2 : a = true → Ty G c2 tb Γ (· = b)) : Ty G (c1 + c2) (tAndV ta tb) Γ (· = (a && b)) := fun z B σ H en s hz Q q => by
  refine h1 z B σ H en s (by omega) _ fun x v z1 B1 H1 ax n1 hv => ?_
  subst ax
  refine ⟨x, hv, ?_⟩
  cases x with
  | true =>
    show tb σ H1 Q
    refine h2 rfl z1 B1 σ H1 (en.up n1.up) n1.at_ (by have := n1.hi; omega) _ fun y w z2 B2 H2 ay n2 hw => ?_
    exact q y w z2 B2 H2 ay (n1.trans s n2) hw
  | false =>
    show Q (.bl false) H1
    exact q false _ z1 B1 H1 rfl (n1.le (by omega)) rfl
theorem ty_notV {a : Bool} (h1 : Ty G c ta Γ (· = a)) : Ty G c (tNotV ta) Γ (· = !a) := fun z B σ H en s hz Q q =>
  h1 z B σ H en s hz _ fun x v z1 B1 H1 ax n1 hv => ⟨x, hv, q (!x) _ z1 B1 H1 (by rw [ax]) n1 rfl⟩
theorem ty_if {b : Bool} (h : TyT G c1 tt Γ (· = b)) (h1 : b = true → Ty G c2 ta Γ A) (h2 : b = false → Ty G c2 tb Γ A) : Ty G (c1 + c2) (tIf tt ta tb) Γ A := fun z B σ H en s hz Q q => by
  refine h z B σ H en s (by omega) _ fun x z1 B1 H1 ax n1 => ?_
  subst ax
  cases x with
  | true =>
    show ta σ H1 Q
    refine h1 rfl z1 B1 σ H1 (en.up n1.up) n1.at_ (by have := n1.hi; omega) _ fun y w z2 B2 H2 ay n2 hw => ?_
    exact q y w z2 B2 H2 ay (n1.trans s n2) hw
  | false =>
    show tb σ H1 Q
    refine h2 rfl z1 B1 σ H1 (en.up n1.up) n1.at_ (by have := n1.hi; omega) _ fun y w z2 B2 H2 ay n2 hw => ?_
    exact q y w z2 B2 H2 ay (n1.trans s n2) hw
end
end AP
set_option maxHeartbeats 4000000
/-! The rules of W1's judgements for the built-in operations. -/
namespace AP
open PySem PySem.Spec PyProof.Rows L2 Evl
section
variable {K : PySem.W.Frag} {G : Option Addr} {c c1 c2 c3 : Nat} {te ta tb tx : TE} {tt tu : TT} {Γ : Ctx} {α β γ : Type} [Py α] [Py β] [Py γ] {A A' : α → Prop} {A1 : β → Prop} {A2 : γ → Prop} {Ps : List VP} {tr : TA} {i j : Int} {B B' H : Hp} {v w : V}
/-- the same value told otherwise -/
theorem Ty.cast {x : α} {y : β} (h : Ty G c te Γ (· = x)) (k : ∀ v B, Py.is x v B → Py.is y v B) : Ty G c te Γ (· = y) := fun z B σ H en s hz Q q =>
  h z B σ H en s hz Q fun x' v z' B' H' a n hv => q y v z' B' H' rfl n (k v B' (a ▸ hv))
/-! ### ints -/
theorem ty_I0 {f : Int → Int → Int} (ha : Ty G c1 ta Γ (· = i)) (hb : Ty G c2 tb Γ (· = j)) : Ty G (c1 + c2) (tOp (rI0 fun a b => .int (f a b)) ta tb) Γ (· = f i j) :=
  ty_op ha hb fun x y v w B ex ey hv hw z B' H e s Q q => ⟨x, y, hv, hw, q _ _ z B' H (by rw [ex, ey]) (.refl s) rfl⟩
theorem ty_I0N {f : Int → Int → Int} {A A' : Int → Prop} (ha : Ty G c1 ta Γ A) (hb : Ty G c2 tb Γ A') : Ty G (c1 + c2) (tOp (rI0 fun a b => .int (f a b)) ta tb) Γ (fun n => ∃ i j, A i ∧ A' j ∧ n = f i j) :=
  ty_op ha hb fun x y v w B ex ey hv hw z B' H e s Q q => ⟨x, y, hv, hw, q _ _ z B' H ⟨x, y, ex, ey, rfl⟩ (.refl s) rfl⟩
theorem ty_I {C : Int → Int → Prop} {f : Int → Int → Int} (ha : Ty G c1 ta Γ (· = i)) (hb : Ty G c2 tb Γ (· = j)) (hc : C i j) : Ty G (c1 + c2) (tOp (rI C fun a b => .int (f a b)) ta tb) Γ (· = f i j) :=
  ty_op ha hb fun x y v w B ex ey hv hw z B' H e s Q q => ⟨x, y, hv, hw, by rw [ex, ey]; exact hc, q _ _ z B' H (by rw [ex, ey]) (.refl s) rfl⟩
theorem ty_IN {C : Int → Int → Prop} {f : Int → Int → Int} {A A' : Int → Prop} (ha : Ty G c1 ta Γ A) (hb : Ty G c2 tb Γ A') (hc : ∀ i j, A i → A' j → C i j) : Ty G (c1 + c2) (tOp (rI C fun a b => .int (f a b)) ta tb) Γ (fun n => ∃ i j, A i ∧ A' j ∧ n = f i j) :=
  ty_op ha hb fun x y v w B ex ey hv hw z B' H e s Q q => ⟨x, y, hv, hw, hc x y ex ey, q _ _ z B' H ⟨x, y, ex, ey, rfl⟩ (.refl s) rfl⟩
theorem ty_B0 {p : Int → Int → Bool} (ha : Ty G c1 ta Γ (· = i)) (hb : Ty G c2 tb Γ (· = j)) : Ty G (c1 + c2) (tOp (rI0 fun a b => .bl (p a b)) ta tb) Γ (· = p i j) :=
  ty_op ha hb fun x y v w B ex ey hv hw z B' H e s Q q => ⟨x, y, hv, hw, q _ _ z B' H (by rw [ex, ey]) (.refl s) rfl⟩
theorem ty_B0N {p : Int → Int → Bool} {A A' : Int → Prop} (ha : Ty G c1 ta Γ A) (hb : Ty G c2 tb Γ A') : Ty G (c1 + c2) (tOp (rI0 fun a b => .bl (p a b)) ta tb) Γ (fun b => ∃ i j, A i ∧ A' j ∧ b = p i j) :=
  ty_op ha hb fun x y v w B ex ey hv hw z B' H e s Q q => ⟨x, y, hv, hw, q _ _ z B' H ⟨x, y, ex, ey, rfl⟩ (.refl s) rfl⟩
theorem dec_int' (i j : Int) : decide (V.int i = V.int j) = decide (i = j) := by
  by_cases h : i = j
  · rw [decide_eq_true h, decide_eq_true (congrArg V.int h)]
  · rw [decide_eq_false h, decide_eq_false fun z => h (by injection z)]
theorem ty_eqI (ha : Ty G c1 ta Γ (· = i)) (hb : Ty G c2 tb Γ (· = j)) : Ty G (c1 + c2) (tOp rEq ta tb) Γ (· = decide (i = j)) :=
  ty_op ha hb fun x y v w B ex ey hv hw z B' H e s Q q => by
    subst ex ey
    cases (show v = .int x from hv)
    cases (show w = .int y from hw)
    exact ⟨rfl, q _ _ z B' H rfl (.refl s) (congrArg V.bl (dec_int' x y))⟩
theorem ty_neI (ha : Ty G c1 ta Γ (· = i)) (hb : Ty G c2 tb Γ (· = j)) : Ty G (c1 + c2) (tOp rNe ta tb) Γ (· = !decide (i = j)) :=
  ty_op ha hb fun x y v w B ex ey hv hw z B' H e s Q q => by
    subst ex ey
    cases (show v = .int x from hv)
    cases (show w = .int y from hw)
    exact ⟨rfl, q _ _ z B' H rfl (.refl s) (congrArg (fun b => V.bl !b) (dec_int' x y))⟩
theorem ty_eqIN {A A' : Int → Prop} (ha : Ty G c1 ta Γ A) (hb : Ty G c2 tb Γ A') : Ty G (c1 + c2) (tOp rEq ta tb) Γ (fun b => ∃ i j, A i ∧ A' j ∧ b = decide (i = j)) :=
  ty_op ha hb fun x y v w B ex ey hv hw z B' H e s Q q => by
    cases (show v = .int x from hv)
    cases (show w = .int y from hw)
    exact ⟨rfl, q _ _ z B' H ⟨x, y, ex, ey, rfl⟩ (.refl s) (congrArg V.bl (dec_int' x y))⟩
theorem ty_neS {a b : Str} (ha : Ty G c1 ta Γ (· = a)) (hb : Ty G c2 tb Γ (· = b)) : Ty G (c1 + c2) (tOp rNe ta tb) Γ (· = !decide (a = b)) :=
  ty_op ha hb fun x y v w B ex ey hv hw z B' H e s Q q => by
    subst ex ey
    cases (show v = .str x from hv)
    cases (show w = .str y from hw)
    refine ⟨rfl, q _ _ z B' H rfl (.refl s) (congrArg (fun b => V.bl !b) ?_)⟩
    by_cases h : x = y
    · rw [decide_eq_true h, decide_eq_true (congrArg V.str h)]
    · rw [decide_eq_false h, decide_eq_false fun z => h (by injection z)]
theorem ty_neg {i : Int} (ha : Ty G c ta Γ (· = i)) : Ty G c (tUn (rU fun i => .int (-i)) ta) Γ (· = -i) :=
  ty_un ha fun x v B ex hv z B' H e s Q q => ⟨x, hv, q _ _ z B' H (by rw [ex]) (.refl s) rfl⟩
theorem ty_bits (h : Ty G c te Γ (· = i)) : Ty G c (tBits te) Γ (· = ((Builtin.Int.intBits i : Nat) : Int)) := fun z B σ H en s hz Q q =>
  h z B σ H en s hz _ fun x v z' B' H' ex n hv => ⟨x, hv, q _ _ z' B' H' (by rw [ex]) n rfl⟩
theorem ty_isB {a b : Bool} (ha : Ty G c1 ta Γ (· = a)) (hb : Ty G c2 tb Γ (· = b)) : Ty G (c1 + c2) (tOp rIsB ta tb) Γ (· = decide (a = b)) :=
  ty_op ha hb fun x y v w B ex ey hv hw z B' H e s Q q => ⟨x, y, hv, hw, q _ _ z B' H (by rw [ex, ey]) (.refl s) rfl⟩
/-! chains -/
theorem ty_chain {p p' : Int → Int → Bool} {k : Int} {tc : TE} (ha : Ty G c1 ta Γ (· = i)) (hb : Ty G c2 tb Γ (· = j)) (hc : Ty G c3 tc Γ (· = k)) :
    Ty G (c1 + c2 + c3) (tChain (rI0 fun a b => .bl (p a b)) (rI0 fun a b => .bl (p' a b)) ta tb tc) Γ (· = (p i j && p' j k)) := fun z B σ H en s hz Q q => by
  refine ha z B σ H en s (by omega) _ fun x v z1 B1 H1 ex n1 hv => ?_
  refine hb z1 B1 σ H1 (en.up n1.up) n1.at_ (by have := n1.hi; omega) _ fun y w z2 B2 H2 ey n2 hw => ?_
  subst ex ey
  refine ⟨x, y, hv, hw, p x y, rfl, ?_⟩
  cases e : p x y with
  | true =>
    refine hc z2 B2 σ H2 ((en.up n1.up).up n2.up) n2.at_ (by have := n1.hi; have := n2.hi; omega) _ fun u m z3 B3 H3 eu n3 hm => ?_
    subst eu
    exact ⟨y, u, hw, hm, q _ _ z3 B3 H3 rfl ((n1.trans s n2).trans s n3) (by show V.bl _ = V.bl _; rw [e] <;> rfl)⟩
  | false => exact q _ _ z2 B2 H2 rfl ((n1.trans s n2).le (by omega)) (by show V.bl _ = V.bl _; rw [e] <;> rfl)
/-! ### lists -/
theorem ty_len {xs : List α} (h : Ty G c ta Γ (· = xs)) : Ty G (c + 0) (tCB (rLenS K) (tCons ta tNil)) Γ (· = (xs.length : Int)) :=
  ty_cb (ta_cons h ta_nil) fun vs B al z B' H e s Q q => by
    cases al with
    | cons _ hx r =>
      cases r
      obtain ⟨p, us, rfl, h2, h3⟩ := hx
      refine ⟨p, us, rfl, Or.inl (sq_of (s.ex _ _ (e _ _ h2))), q _ _ z B' H rfl (.refl s) ?_⟩
      show V.int _ = V.int _
      rw [h3.len]
theorem Each.at {B : Hp} {xs : List α} {vs : List V} (h : Each B xs vs) {i : Int} {x : α} (e : atI xs i = some x) : ∃ v, atI vs i = some v ∧ Py.is x v B := by
  unfold atI at e ⊢
  rw [h.len]
  cases q : ixN xs.length i with
  | none => rw [q] at e; cases e
  | some j =>
    rw [q] at e
    exact h.get (i := j) e
theorem ty_ixN {A : List α → Prop} {A' : Int → Prop} {A2 : α → Prop} (ha : Ty G c1 ta Γ A) (hb : Ty G c2 tb Γ A') (hx : ∀ xs i, A xs → A' i → ∃ x, atI xs i = some x ∧ A2 x) : Ty G (c1 + c2) (tOp (rIxL K) ta tb) Γ A2 :=
  ty_op ha hb fun x y v w B ex ey hv hw z B' H e s Q q => by
    obtain ⟨p, us, rfl, h2, h3⟩ := hv
    cases (show w = .int y from hw)
    obtain ⟨x1, e1, a1⟩ := hx x y ex ey
    obtain ⟨u, e2, hu⟩ := h3.at e1
    exact ⟨p, us, y, u, rfl, rfl, sq_of (s.ex _ _ (e _ _ h2)), e2, q x1 u z B' H a1 (.refl s) (Py.st _ _ _ _ e hu)⟩
theorem ty_ix {xs : List α} {x : α} (ha : Ty G c1 ta Γ (· = xs)) (hb : Ty G c2 tb Γ (· = i)) (hx : atI xs i = some x) : Ty G (c1 + c2) (tOp (rIxL K) ta tb) Γ (· = x) :=
  ty_ixN ha hb fun ys k e1 e2 => ⟨x, by rw [e1, e2]; exact hx, rfl⟩
theorem ty_fst {x : α × β} (ha : Ty G c1 ta Γ (· = x)) (hb : Ty G c2 tb Γ (· = (0 : Int))) : Ty G (c1 + c2) (tOp (rIxT K) ta tb) Γ (· = x.1) :=
  ty_op ha hb fun x' y v w B ex ey hv hw z B' H e s Q q => by
    obtain ⟨p, a, b, rfl, h2, h3, h4⟩ := hv
    cases (show w = .int y from hw)
    subst ex ey
    exact ⟨p, [a, b], 0, a, rfl, rfl, st_of (s.ex _ _ (e _ _ h2)), rfl, q _ a z B' H rfl (.refl s) (Py.st _ _ _ _ e h3)⟩
theorem ty_snd {x : α × β} (ha : Ty G c1 ta Γ (· = x)) (hb : Ty G c2 tb Γ (· = (1 : Int))) : Ty G (c1 + c2) (tOp (rIxT K) ta tb) Γ (· = x.2) :=
  ty_op ha hb fun x' y v w B ex ey hv hw z B' H e s Q q => by
    obtain ⟨p, a, b, rfl, h2, h3, h4⟩ := hv
    cases (show w = .int y from hw)
    subst ex ey
    exact ⟨p, [a, b], 1, b, rfl, rfl, st_of (s.ex _ _ (e _ _ h2)), rfl, q _ b z B' H rfl (.refl s) (Py.st _ _ _ _ e h4)⟩
/-- a new list in the heap -/
theorem new_list {xs : List α} {vs : List V} {z : Int} {p : Addr} (s : At G z B H) (h : H p = none) (e : Each B xs vs) :
    Nx G 0 z B H z (upd B p (.lst vs)) (upd H p (.lst vs)) ∧ Py.is xs (.ref p) (upd B p (.lst vs)) := by
  have n := Nx.alloc (o := .lst vs) s h
  exact ⟨n, p, vs, rfl, upd_same, e.ex n.up⟩
theorem new_tup {x : α} {y : β} {v w : V} {z : Int} {p : Addr} (s : At G z B H) (h : H p = none) (h1 : Py.is x v B) (h2 : Py.is y w B) :
    Nx G 0 z B H z (upd B p (.tup [v, w])) (upd H p (.tup [v, w])) ∧ Py.is (x, y) (.ref p) (upd B p (.tup [v, w])) := by
  have n := Nx.alloc (o := .tup [v, w]) s h
  exact ⟨n, p, v, w, rfl, upd_same, Py.st _ _ _ _ n.up h1, Py.st _ _ _ _ n.up h2⟩
def TyL (G : Option Addr) (c : Nat) (ta : TA) (Γ : Ctx) {α : Type} [Py α] (A : List α → Prop) : Prop :=
  ∀ z B σ H, Slo B σ Γ → At G z B H → z + c ≤ 2 ^ 50 → ∀ Q : List V → Hp → Prop, (∀ xs vs z' B' H', A xs → Each B' xs vs → Nx G c z B H z' B' H' → Q vs H') → ta σ H Q
theorem tl_nil : TyL (α := α) G 0 tNil Γ (· = []) := fun z B σ H en s _ Q q => q [] [] z B H rfl .nil (.refl s)
theorem tl_consN {A : α → Prop} {A' : List α → Prop} (h : Ty G c1 te Γ A) (hr : TyL G c2 tr Γ A') : TyL G (c1 + c2) (tCons te tr) Γ (fun l => ∃ x xs, l = x :: xs ∧ A x ∧ A' xs) := fun z B σ H en s hz Q q => by
  refine h z B σ H en s (by omega) _ fun x v z1 B1 H1 ax n1 hv => ?_
  refine hr z1 B1 σ H1 (en.up n1.up) n1.at_ (by have := n1.hi; omega) _ fun xs vs z2 B2 H2 al ea n2 => ?_
  exact q _ _ z2 B2 H2 ⟨x, xs, rfl, ax, al⟩ (.cons (Py.st _ _ _ _ n2.up hv) ea) (n1.trans s n2)
theorem TyL.imp {A A' : List α → Prop} (h : TyL G c tr Γ A) (i : ∀ x, A x → A' x) : TyL G c tr Γ A' := fun z B σ H en s hz Q q => h z B σ H en s hz Q fun x v z' B' H' a => q x v z' B' H' (i x a)
theorem tl_cons {x : α} {xs : List α} (h : Ty G c1 te Γ (· = x)) (hr : TyL G c2 tr Γ (· = xs)) : TyL G (c1 + c2) (tCons te tr) Γ (· = x :: xs) :=
  (tl_consN h hr).imp fun l ⟨_, _, e, e1, e2⟩ => by rw [e, e1, e2]
theorem ty_lst {A : List α → Prop} (h : TyL G c tr Γ A) (small : ∀ xs, A xs → xs.length ≤ 100000) : Ty G c (tLst tr) Γ A := fun z B σ H en s hz Q q =>
  h z B σ H en s hz _ fun xs vs z1 B1 H1 ax ea n1 => ⟨sz_of (by rw [ea.len]; exact small xs ax), fun p hp => by
    obtain ⟨n2, is2⟩ := new_list n1.at_ hp ea
    exact q xs _ _ _ _ ax ((n1.trans s n2).le (by omega)) is2⟩
theorem ty_lit {xs : List α} (h : TyL G c tr Γ (· = xs)) (small : xs.length ≤ 100000) : Ty G c (tLst tr) Γ (· = xs) := ty_lst h fun _ e => by rw [e]; exact small
theorem ty_nil : Ty G 0 (tLst tNil) Γ (· = ([] : List α)) := ty_lit tl_nil (by simp)
theorem ty_tup2 {x : α} {y : β} (h1 : Ty G c1 ta Γ (· = x)) (h2 : Ty G c2 tb Γ (· = y)) : Ty G (c1 + c2) (tTup (tCons ta (tCons tb tNil))) Γ (· = (x, y)) := fun z B σ H en s hz Q q => by
  refine h1 z B σ H en s (by omega) _ fun x' v z1 B1 H1 ex n1 hv => ?_
  refine h2 z1 B1 σ H1 (en.up n1.up) n1.at_ (by have := n1.hi; omega) _ fun y' w z2 B2 H2 ey n2 hw => ?_
  subst ex ey
  refine ⟨sz_of (by simp), fun p hp => ?_⟩
  obtain ⟨n3, is3⟩ := new_tup n2.at_ hp (Py.st _ _ _ _ n2.up hv) hw
  exact q _ _ _ _ _ rfl (((n1.trans s n2).trans s n3).le (by omega)) is3
/-- slices -/
def cutL (xs : List α) (lo hi : Option Int) : List α := (xs.drop (HT.sIx xs.length 0 lo)).take (HT.sIx xs.length xs.length hi - HT.sIx xs.length 0 lo)
theorem Each.cut {xs : List α} {vs : List V} (h : Each B xs vs) (lo hi : Option Int) : Each B (cutL xs lo hi) (cutV vs lo hi) := by
  unfold cutL cutV
  rw [h.len]
  exact (h.drop _).take _
def TyO (G : Option Addr) (c : Nat) (to : TO) (Γ : Ctx) (o : Option Int) : Prop :=
  ∀ z B σ H, Slo B σ Γ → At G z B H → z + c ≤ 2 ^ 50 → ∀ Q : Option Int → Hp → Prop, (∀ z' B' H', Nx G c z B H z' B' H' → Q o H') → to σ H Q
theorem to_none : TyO G 0 tNoPart Γ none := fun z B σ H _ s _ Q q => q z B H (.refl s)
theorem to_some (h : Ty G c te Γ (· = i)) : TyO G c (tPart te) Γ (some i) := fun z B σ H en s hz Q q =>
  h z B σ H en s hz _ fun x v z' B' H' ex n hv => ⟨x, hv, by rw [ex]; exact q z' B' H' n⟩
theorem ty_sl {xs : List α} {tl th : TO} {lo hi : Option Int} (h : Ty G c1 te Γ (· = xs)) (h1 : TyO G c2 tl Γ lo) (h2 : TyO G c3 th Γ hi) : Ty G (c1 + c2 + c3) (tSl (rSlL K) te tl th) Γ (· = cutL xs lo hi) := fun z B σ H en s hz Q q => by
  refine h z B σ H en s (by omega) _ fun x v z1 B1 H1 ex n1 hv => ?_
  refine h1 z1 B1 σ H1 (en.up n1.up) n1.at_ (by have := n1.hi; omega) _ fun z2 B2 H2 n2 => ?_
  refine h2 z2 B2 σ H2 ((en.up n1.up).up n2.up) n2.at_ (by have := n1.hi; have := n2.hi; omega) _ fun z3 B3 H3 n3 => ?_
  subst ex
  obtain ⟨a, us, rfl, e1, e2⟩ := hv
  refine ⟨a, us, rfl, sq_of (n3.at_.ex _ _ (n3.up _ _ (n2.up _ _ e1))), fun p hp => ?_⟩
  obtain ⟨n4, is4⟩ := new_list n3.at_ hp (((e2.ex n2.up).ex n3.up).cut lo hi)
  exact q _ _ _ _ _ rfl ((((n1.trans s n2).trans s n3).trans s n4).le (by omega)) is4
theorem ty_catN {A A' : List α → Prop} (ha : Ty G c1 ta Γ A) (hb : Ty G c2 tb Γ A') (small : ∀ xs ys, A xs → A' ys → xs.length + ys.length ≤ 100000) : Ty G (c1 + c2) (tOp rCat ta tb) Γ (fun l => ∃ xs ys, A xs ∧ A' ys ∧ l = xs ++ ys) :=
  ty_op ha hb fun x y v w B ex ey hv hw z B' H e s Q q => by
    obtain ⟨p, us, rfl, h1, h2⟩ := hv
    obtain ⟨p', us', rfl, h1', h2'⟩ := hw
    refine ⟨p, p', us, us', rfl, rfl, s.ex _ _ (e _ _ h1), s.ex _ _ (e _ _ h1'), sz_of (by rw [h2.len, h2'.len]; exact small x y ex ey), fun r hr => ?_⟩
    obtain ⟨n, is⟩ := new_list s hr ((h2.ex e).app (h2'.ex e))
    exact q _ _ _ _ _ ⟨x, y, ex, ey, rfl⟩ n is
theorem ty_cat {xs ys : List α} (ha : Ty G c1 ta Γ (· = xs)) (hb : Ty G c2 tb Γ (· = ys)) (small : xs.length + ys.length ≤ 100000) : Ty G (c1 + c2) (tOp rCat ta tb) Γ (· = xs ++ ys) :=
  (ty_catN ha hb fun _ _ e1 e2 => by rw [e1, e2]; exact small).imp fun l ⟨_, _, e1, e2, e⟩ => by rw [e, e1, e2]
theorem inV_int (i : Int) : ∀ ns : List Int, inV (.int i) (ns.map V.int) = decide (i ∈ ns)
  | [] => rfl
  | n :: r => by
    have ih := inV_int i r
    unfold inV at ih ⊢
    rw [List.map_cons, List.any_cons, ih]
    have e : eqV (V.int n) (V.int i) = decide (i = n) := by
      show (n == i) = decide (i = n)
      rw [Bool.eq_iff_iff, beq_iff_eq, decide_eq_true_iff]
      exact eq_comm
    rw [e]
    simp
theorem all_flat_int : ∀ ns : List Int, (ns.map V.int).all flatV = true
  | [] => rfl
  | _ :: r => by rw [List.map_cons, List.all_cons, all_flat_int r] <;> rfl
theorem ty_notIn {ns : List Int} (ha : Ty G c1 ta Γ (· = i)) (hb : Ty G c2 tb Γ (· = ns)) : Ty G (c1 + c2) (tOp (rIn K true) ta tb) Γ (· = !decide (i ∈ ns)) :=
  ty_op ha hb fun x y v w B ex ey hv hw z B' H e s Q q => by
    obtain ⟨p, rfl, h1⟩ := Py.ints hw
    cases (show v = .int x from hv)
    subst ex ey
    refine ⟨p, _, rfl, Or.inl (sq_of (s.ex _ _ (e _ _ h1))), rfl, all_flat_int y, q _ _ z B' H rfl (.refl s) ?_⟩
    rw [inV_int]
    rfl
/-- a built-in function of one list of ints -/
theorem Alls.one {P : VP} {vs : List V} (h : Alls B [P] vs) : ∃ v, vs = [v] ∧ P v B := by
  cases h with
  | cons _ h r =>
    cases r
    exact ⟨_, rfl, h⟩
theorem Alls.two {P P' : VP} {vs : List V} (h : Alls B [P, P'] vs) : ∃ v w, vs = [v, w] ∧ P v B ∧ P' w B := by
  cases h with
  | cons _ h r =>
    obtain ⟨w, rfl, k⟩ := r.one
    exact ⟨_, w, rfl, h, k⟩
theorem ty_sum {ns : List Int} (h : Ty G c ta Γ (· = ns)) : Ty G (c + 0) (tCB (rSum K) (tCons ta tNil)) Γ (· = ns.sum) :=
  ty_cb (ta_cons h ta_nil) fun vs B al z B' H e s Q q => by
    obtain ⟨v, rfl, hv⟩ := al.one
    obtain ⟨p, rfl, h1⟩ := Py.ints hv
    exact ⟨p, ns, rfl, sq_of (s.ex _ _ (e _ _ h1)), q _ _ z B' H rfl (.refl s) rfl⟩
theorem ty_min {ns : List Int} (h : Ty G c ta Γ (· = ns)) (h0 : 0 < ns.length) : Ty G (c + 0) (tCB (rMin K) (tCons ta tNil)) Γ (fun m => m ∈ ns ∧ ∀ y, y ∈ ns → m ≤ y) :=
  ty_cb (ta_cons h ta_nil) fun vs B al z B' H e s Q q => by
    obtain ⟨v, rfl, hv⟩ := al.one
    obtain ⟨p, rfl, h1⟩ := Py.ints hv
    exact ⟨p, ns, rfl, sq_of (s.ex _ _ (e _ _ h1)), h0, fun m h1 h2 => q _ _ z B' H ⟨h1, h2⟩ (.refl s) rfl⟩
theorem ty_max {ns : List Int} (h : Ty G c ta Γ (· = ns)) (h0 : 0 < ns.length) : Ty G (c + 0) (tCB (rMax K) (tCons ta tNil)) Γ (fun m => m ∈ ns ∧ ∀ y, y ∈ ns → y ≤ m) :=
  ty_cb (ta_cons h ta_nil) fun vs B al z B' H e s Q q => by
    obtain ⟨v, rfl, hv⟩ := al.one
    obtain ⟨p, rfl, h1⟩ := Py.ints hv
    exact ⟨p, ns, rfl, sq_of (s.ex _ _ (e _ _ h1)), h0, fun m h1 h2 => q _ _ z B' H ⟨h1, h2⟩ (.refl s) rfl⟩
theorem ty_sortedN {A : List Int → Prop} (h : Ty G c ta Γ A) : Ty G (c + 0) (tCB (rSortedI K) (tCons ta tNil)) Γ (fun l : List Int => ∃ ns : List Int, A ns ∧ l.Perm ns ∧ l.Pairwise (· ≤ ·)) :=
  ty_cb (ta_consN h ta_nil) fun vs B al z B' H e s Q q => by
    obtain ⟨v, rfl, ns, an, hv⟩ := al.one
    obtain ⟨p, rfl, h1⟩ := Py.ints hv
    refine ⟨p, ns, rfl, sq_of (s.ex _ _ (e _ _ h1)), fun ms r pm so hr => ?_⟩
    obtain ⟨n, is⟩ := new_list s hr (Each.of_ints ms)
    exact q ms _ _ _ _ ⟨ns, an, pm, so⟩ n is
theorem ty_all {bs : List Bool} (h : Ty G c ta Γ (· = bs)) : Ty G (c + 0) (tCB (rAll K) (tCons ta tNil)) Γ (· = bs.all id) :=
  ty_cb (ta_cons h ta_nil) fun vs B al z B' H e s Q q => by
    obtain ⟨v, rfl, p, us, rfl, h1, h2⟩ := al.one
    cases h2.bls
    exact ⟨p, bs, rfl, sq_of (s.ex _ _ (e _ _ h1)), q _ _ z B' H rfl (.refl s) rfl⟩
def rInt1 : List V → Hp → VK → Prop := fun xs H Q => (∃ i, xs = [.int i] ∧ Q (.int i) H) ∨ ∃ k, xs = [.bl k] ∧ Q (.int (if k then 1 else 0)) H
theorem ty_int {A : Int → Prop} (h : Ty G c ta Γ A) : Ty G (c + 0) (tCB rInt1 (tCons ta tNil)) Γ A :=
  ty_cb (ta_consN h ta_nil) fun vs B al z B' H e s Q q => by
    obtain ⟨v, rfl, n, an, hv⟩ := al.one
    cases (show v = .int n from hv)
    exact .inl ⟨n, rfl, q n _ z B' H an (.refl s) rfl⟩
theorem ty_max2 (h1 : Ty G c1 ta Γ (· = i)) (h2 : Ty G c2 tb Γ (· = j)) : Ty G (c1 + (c2 + 0)) (tCB rMax2 (tCons ta (tCons tb tNil))) Γ (· = if j > i then j else i) :=
  ty_cb (ta_cons h1 (ta_cons h2 ta_nil)) fun vs B al z B' H e s Q q => by
    obtain ⟨v, w, rfl, hv, hw⟩ := al.two
    cases (show v = .int i from hv)
    cases (show w = .int j from hw)
    exact ⟨i, j, rfl, q _ _ z B' H rfl (.refl s) rfl⟩
def rMin2 : List V → Hp → VK → Prop := fun xs H Q => ∃ i j, xs = [.int i, .int j] ∧ Q (.int (if j < i then j else i)) H
theorem ty_min2 (h1 : Ty G c1 ta Γ (· = i)) (h2 : Ty G c2 tb Γ (· = j)) : Ty G (c1 + (c2 + 0)) (tCB rMin2 (tCons ta (tCons tb tNil))) Γ (· = if j < i then j else i) :=
  ty_cb (ta_cons h1 (ta_cons h2 ta_nil)) fun vs B al z B' H e s Q q => by
    obtain ⟨v, w, rfl, hv, hw⟩ := al.two
    cases (show v = .int i from hv)
    cases (show w = .int j from hw)
    exact ⟨i, j, rfl, q _ _ z B' H rfl (.refl s) rfl⟩
theorem ty_listOf {xs : List α} (h : Ty G c ta Γ (· = xs)) : Ty G (c + 0) (tCB (rListS K) (tCons ta tNil)) Γ (· = xs) :=
  ty_cb (ta_cons h ta_nil) fun vs B al z B' H e s Q q => by
    obtain ⟨v, rfl, p, us, rfl, h1, h2⟩ := al.one
    refine ⟨p, us, rfl, Or.inl (sq_of (s.ex _ _ (e _ _ h1))), fun r hr => ?_⟩
    obtain ⟨n, is⟩ := new_list s hr (h2.ex e)
    exact q _ _ _ _ _ rfl n is
end
end AP
set_option maxHeartbeats 4000000
/-! Promises of defs, statements, loops and comprehensions over W1's judgements. -/
namespace AP
open PySem PySem.Spec PyProof.Rows L2 Evl
/-! ### promises -/
/-- what a def is called with, in which generator, what it costs, what it gives -/
structure Con (ι β : Type) [Py β] where
  args : ι → List VP
  pre : ι → Option Addr → Prop
  c : ι → Nat
  post : ι → β → Prop
def Con.sp {ι β : Type} [Py β] (C : Con ι β) : Sp := fun vs H Q _ => ∃ i G z B, Alls B (C.args i) vs ∧ C.pre i G ∧ At G z B H ∧ z + C.c i ≤ 2 ^ 50 ∧
  ∀ y w z' B' H', C.post i y → Nx G (C.c i) z B H z' B' H' → Py.is y w B' → Q w H'
section
variable {K : PySem.W.Frag} {G : Option Addr} {c c1 c2 c3 : Nat} {te ta tb tx : TE} {tt tu : TT} {Γ : Ctx} {ι α β γ : Type} [Py α] [Py β] [Py γ] {A A' : α → Prop} {A1 : β → Prop} {Ps : List VP} {tr : TA} {B B' H : Hp} {v w : V}
theorem ty_callN {C : Con ι β} {dvs : List V} {E : XK} (h : TyA G c1 tr Γ Ps) (k : ∀ vs B, Alls B Ps vs → ∃ i, Alls B (C.args i) (vs ++ dvs) ∧ C.pre i G ∧ C.c i ≤ c2 ∧ ∀ y, C.post i y → A1 y) :
    Ty G (c1 + c2) (tCall C.sp dvs E tr) Γ A1 := fun z B σ H en s hz Q q => by
  refine h z B σ H en s (by omega) _ fun vs z1 B1 H1 al n1 => ?_
  obtain ⟨i, h1, h2, h3, h4⟩ := k vs B1 al
  exact ⟨i, G, z1, B1, h1, h2, n1.at_, by have := n1.hi; omega, fun y w z2 B2 H2 py n2 hw => q y w z2 B2 H2 (h4 y py) (n1.trans s (n2.le h3)) hw⟩
theorem ty_call {C : Con ι β} {E : XK} (i : ι) (h : TyA G c1 tr Γ (C.args i)) (p : C.pre i G) : Ty G (c1 + C.c i) (tCall C.sp [] E tr) Γ (C.post i) :=
  ty_callN h fun vs B al => ⟨i, by rw [List.append_nil]; exact al, p, Nat.le_refl _, fun _ h => h⟩
/-- by keywords: gV orders them -/
theorem ty_callK {C : Con ι β} {E : XK} {gV : List V → List V → List V} {tk : TA} (i : ι) {Ps Ks : List VP} (h : TyA G c1 tr Γ Ps) (hk : TyA G c2 tk Γ Ks) (p : C.pre i G) (ord : ∀ vs ks B, Alls B Ps vs → Alls B Ks ks → Alls B (C.args i) (gV vs ks)) :
    Ty G (c1 + c2 + C.c i) (tCallK C.sp gV E tr tk) Γ (C.post i) := fun z B σ H en s hz Q q => by
  refine h z B σ H en s (by omega) _ fun vs z1 B1 H1 al n1 => ?_
  refine hk z1 B1 σ H1 (en.up n1.up) n1.at_ (by have := n1.hi; omega) _ fun ks z2 B2 H2 al2 n2 => ?_
  exact ⟨i, G, z2, B2, ord vs ks B2 (al.ex n2.up) al2, p, n2.at_, by have := n1.hi; have := n2.hi; omega, fun y w z3 B3 H3 py n3 hw => q y w z3 B3 H3 py ((n1.trans s n2).trans s n3) hw⟩
end
/-! ### statements: where one stands, n from the def's start -/
section
variable {K : PySem.W.Frag} {G : Option Addr} {c c0 c1 c2 c3 : Nat} {te ta tb tx : TE} {tt : TT} {Γ : Ctx} {ι α β γ : Type} [Py α] [Py β] [Py γ] {A : α → Prop} {A1 : β → Prop} {Ps : List VP} {tr : TA} {B B' H B0 H0 : Hp} {v w : V}
  {σ : L2.St} {z z0 : Int} {D : Ends} {t t1 t2 tz : TS} {g : TG}
theorem q_asg (s0 : At G z0 B0 H0) (n : Nx G c0 z0 B0 H0 z B H) (en : Slo B σ Γ) {i : Nat} (h : Ty G c te Γ A) (hz : z0 + (c0 + c) ≤ 2 ^ 50)
    (k : ∀ x z' B' H' σ', A x → Nx G c z B H z' B' H' → Nx G (c0 + c) z0 B0 H0 z' B' H' → Slo B' σ' (Γ.set i (some (Py.is x))) → D.nx σ' H') : tAsg te (gName i) D σ H :=
  h z B σ H en n.at_ (by have := n.hi; omega) _ fun x v z' B' H' ax n' hv => k x z' B' H' _ ax n' (n.trans s0 n') ((en.up n'.up).put hv)
theorem q_asgS (s0 : At G z0 B0 H0) (n : Nx G c0 z0 B0 H0 z B H) (en : Slo B σ Γ) {i : Nat} (h : Ty G c te Γ A) (hz : z0 + (c0 + c) ≤ 2 ^ 50)
    (k : ∀ x z' B' H' σ', A x → Nx G c z B H z' B' H' → Nx G (c0 + c) z0 B0 H0 z' B' H' → Slo B' σ' (Γ.set i (some (Py.is x))) → tz D σ' H') : tSeq (tAsg te (gName i)) tz D σ H :=
  q_asg (D := { D with nx := tz D }) s0 n en h hz k
theorem q_drop (s0 : At G z0 B0 H0) (n : Nx G c0 z0 B0 H0 z B H) (en : Slo B σ Γ) (h : Ty G c te Γ A) (hz : z0 + (c0 + c) ≤ 2 ^ 50)
    (k : ∀ x z' B' H', A x → Nx G c z B H z' B' H' → Nx G (c0 + c) z0 B0 H0 z' B' H' → Slo B' σ Γ → D.nx σ H') : tDrop te D σ H :=
  h z B σ H en n.at_ (by have := n.hi; omega) _ fun x v z' B' H' ax n' hv => k x z' B' H' ax n' (n.trans s0 n') (en.up n'.up)
theorem q_dropS (s0 : At G z0 B0 H0) (n : Nx G c0 z0 B0 H0 z B H) (en : Slo B σ Γ) (h : Ty G c te Γ A) (hz : z0 + (c0 + c) ≤ 2 ^ 50)
    (k : ∀ x z' B' H', A x → Nx G c z B H z' B' H' → Nx G (c0 + c) z0 B0 H0 z' B' H' → Slo B' σ Γ → tz D σ H') : tSeq (tDrop te) tz D σ H :=
  q_drop (D := { D with nx := tz D }) s0 n en h hz k
theorem q_ret (s0 : At G z0 B0 H0) (n : Nx G c0 z0 B0 H0 z B H) (en : Slo B σ Γ) (h : Ty G c te Γ A) (hz : z0 + (c0 + c) ≤ 2 ^ 50)
    (k : ∀ x v z' B' H', A x → Nx G (c0 + c) z0 B0 H0 z' B' H' → Py.is x v B' → D.rt v H') : tRet te D σ H :=
  h z B σ H en n.at_ (by have := n.hi; omega) _ fun x v z' B' H' ax n' hv => k x v z' B' H' ax (n.trans s0 n') hv
theorem q_if {Ab : Bool → Prop} (s0 : At G z0 B0 H0) (n : Nx G c0 z0 B0 H0 z B H) (en : Slo B σ Γ) (h : TyT G c tt Γ Ab) (hz : z0 + (c0 + c) ≤ 2 ^ 50)
    (k1 : Ab true → ∀ z' B' H', Nx G c z B H z' B' H' → Nx G (c0 + c) z0 B0 H0 z' B' H' → Slo B' σ Γ → t1 D σ H')
    (k2 : Ab false → ∀ z' B' H', Nx G c z B H z' B' H' → Nx G (c0 + c) z0 B0 H0 z' B' H' → Slo B' σ Γ → t2 D σ H') : tIfS tt t1 t2 D σ H :=
  h z B σ H en n.at_ (by have := n.hi; omega) _ fun b z' B' H' ab n' => by
    cases b with
    | true => exact k1 ab z' B' H' n' (n.trans s0 n') (en.up n'.up)
    | false => exact k2 ab z' B' H' n' (n.trans s0 n') (en.up n'.up)
theorem q_ifS {Ab : Bool → Prop} (s0 : At G z0 B0 H0) (n : Nx G c0 z0 B0 H0 z B H) (en : Slo B σ Γ) (h : TyT G c tt Γ Ab) (hz : z0 + (c0 + c) ≤ 2 ^ 50)
    (k1 : Ab true → ∀ z' B' H', Nx G c z B H z' B' H' → Nx G (c0 + c) z0 B0 H0 z' B' H' → Slo B' σ Γ → t1 { D with nx := tz D } σ H')
    (k2 : Ab false → ∀ z' B' H', Nx G c z B H z' B' H' → Nx G (c0 + c) z0 B0 H0 z' B' H' → Slo B' σ Γ → t2 { D with nx := tz D } σ H') : tSeq (tIfS tt t1 t2) tz D σ H :=
  q_if (D := { D with nx := tz D }) s0 n en h hz k1 k2
/-- if c: return .. (no else), c deterministic -/
theorem q_when {b : Bool} (s0 : At G z0 B0 H0) (n : Nx G c0 z0 B0 H0 z B H) (en : Slo B σ Γ) (h : TyT G c tt Γ (· = b)) (hz : z0 + (c0 + c) ≤ 2 ^ 50)
    (k1 : b = true → ∀ z' B' H', Nx G c z B H z' B' H' → Nx G (c0 + c) z0 B0 H0 z' B' H' → Slo B' σ Γ → t1 { D with nx := tz D } σ H')
    (k2 : b = false → ∀ z' B' H', Nx G c z B H z' B' H' → Nx G (c0 + c) z0 B0 H0 z' B' H' → Slo B' σ Γ → tz D σ H') : tSeq (tIfS tt t1 tNext) tz D σ H :=
  q_ifS s0 n en h hz (fun e => k1 e.symm) (fun e => k2 e.symm)
/-- a check that never holds -/
theorem q_not (s0 : At G z0 B0 H0) (n : Nx G c0 z0 B0 H0 z B H) (en : Slo B σ Γ) (h : TyT G c tt Γ (· = false)) (hz : z0 + (c0 + c) ≤ 2 ^ 50)
    (k2 : ∀ z' B' H', Nx G c z B H z' B' H' → Nx G (c0 + c) z0 B0 H0 z' B' H' → Slo B' σ Γ → tz D σ H') : tSeq (tIfS tt t1 tNext) tz D σ H :=
  q_when s0 n en h hz (fun e => Bool.noConfusion e) (fun _ => k2)
theorem s_not (s0 : At G z0 B0 H0) (n : Nx G c0 z0 B0 H0 z B H) (en : Slo B σ Γ) (h : TyT G c tt Γ (· = false)) (hz : z0 + (c0 + c) ≤ 2 ^ 50)
    (k2 : ∀ z' B' H', Nx G c z B H z' B' H' → Nx G (c0 + c) z0 B0 H0 z' B' H' → Slo B' σ Γ → D.nx σ H') : tIfS tt t1 tNext D σ H :=
  q_if s0 n en h hz (fun e => Bool.noConfusion e) (fun _ => k2)
/-- a, b = e1, e2 -/
theorem q_par {i j : Nat} {c1 c2 : Nat} (s0 : At G z0 B0 H0) (n : Nx G c0 z0 B0 H0 z B H) (en : Slo B σ Γ) (h1 : Ty G c1 ta Γ A) (h2 : Ty G c2 tb Γ A1) (hz : z0 + (c0 + (c1 + c2)) ≤ 2 ^ 50)
    (k : ∀ x y z' B' H' σ', A x → A1 y → Nx G (c1 + c2) z B H z' B' H' → Nx G (c0 + (c1 + c2)) z0 B0 H0 z' B' H' → Slo B' σ' ((Γ.set i (some (Py.is x))).set j (some (Py.is y))) → tz D σ' H') :
    tSeq (tPar i j (tCons ta (tCons tb tNil))) tz D σ H := by
  refine h1 z B σ H en n.at_ (by have := n.hi; omega) _ fun x v z1 B1 H1 ax n1 hv => ?_
  refine h2 z1 B1 σ H1 (en.up n1.up) n1.at_ (by have := n.hi; have := n1.hi; omega) _ fun y w z2 B2 H2 ay n2 hw => ?_
  have nn := n1.trans n.at_ n2
  exact ⟨v, w, rfl, k x y z2 B2 H2 _ ax ay nn (n.trans s0 nn) (((en.up nn.up).put (Py.st _ _ _ _ n2.up hv)).put hw)⟩
/-! ### what loops and comprehensions go over -/
/-- the turns' items: what each one does to the slots -/
structure Src (J : It) (g : TG) (B : Hp) (js : List Nat) (n : Nat) (F : Nat → Ctx → Ctx) : Prop where
  stop : ∀ H, Ex B H → J.stop n H
  go : ∀ i, i < n → ∀ H, Ex B H → J.go i H
  yld : ∀ i, i < n → ∀ x H H', Ex B H → J.yld i H x H' → Ex H H' ∧ ∀ σ Γ Bc, Slo Bc σ Γ → Ex B Bc → Ex Bc H → ∀ Q : L2.St → Hp → Prop,
    (∀ σ', Slo Bc σ' (F i Γ) → (∀ vs, (∀ j ∈ js, j ∈ vs) → L2.wipe σ' vs = L2.wipe σ vs) → Q σ' H') → g x σ H' Q
def TyI (G : Option Addr) (c : Nat) (wi : TI) (g : TG) (Γ : Ctx) (js : List Nat) (An : Nat → Prop) (F : Nat → Ctx → Ctx) : Prop :=
  ∀ z B σ H, Slo B σ Γ → At G z B H → z + c ≤ 2 ^ 50 → ∀ R : It → Hp → Prop, (∀ J n z' B' H', An n → Nx G c z B H z' B' H' → Src J g B' js n F → R J H') → wi σ H R
theorem wipe_set (σ : L2.St) (j : Nat) (x : Option V) : ∀ vs : List Nat, j ∈ vs → L2.wipe (σ.set j x) vs = L2.wipe σ vs
  | v :: vs, h => by
    unfold L2.wipe
    by_cases e : j ∈ vs
    · rw [wipe_set σ j x vs e]
    · have ev : j = v := by
        rcases List.mem_cons.mp h with h | h
        · exact h
        · exact absurd h e
      subst ev
      clear h
      have : ∀ us : List Nat, (L2.wipe (σ.set j x) us).set j none = (L2.wipe σ us).set j none := by
        intro us
        induction us with
        | nil => show (σ.set j x).set j none = σ.set j none; rw [List.set_set]
        | cons u us ih =>
          unfold L2.wipe
          by_cases k : u = j
          · subst k
            rw [List.set_set, List.set_set]
            exact ih
          · rw [List.set_comm _ _ k, List.set_comm _ _ k, ih]
      exact this vs
theorem src_name {J : It} {j n : Nat} {f : Nat → VP} (st : ∀ i, Stays (f i)) (h1 : ∀ H, Ex B H → J.stop n H) (h2 : ∀ i, i < n → ∀ H, Ex B H → J.go i H)
    (h3 : ∀ i, i < n → ∀ x H H', Ex B H → J.yld i H x H' → H' = H ∧ f i x B) : Src J (gName j) B [j] n (fun i Γ => Γ.set j (some (f i))) :=
  ⟨h1, h2, fun i hi x H H' e y => by
    obtain ⟨rfl, p⟩ := h3 i hi x H H' e y
    refine ⟨Ex.refl _, fun σ Γ Bc en eb ec Q q => q _ (en.set (st i) (st i _ _ _ eb p)) fun vs hv => wipe_set σ j _ vs (hv j (by simp))⟩⟩
/-- the item at a turn -/
def itm {α : Type} [Py α] (xs : List α) (i : Nat) : VP := fun v B => ∃ x, xs[i]? = some x ∧ Py.is x v B
theorem itm_st {xs : List α} (i : Nat) : Stays (itm xs i) := fun _ _ _ e ⟨x, h1, h2⟩ => ⟨x, h1, Py.st _ _ _ _ e h2⟩
theorem itm_eq {xs : List α} {i : Nat} {x : α} (h : xs[i]? = some x) : itm xs i = Py.is x := by
  funext v B
  refine propext ⟨fun ⟨y, h1, h2⟩ => ?_, fun h2 => ⟨x, h, h2⟩⟩
  rw [h] at h1
  cases h1
  exact h2
theorem ti_list {xs : List α} {tl : TE} {j : Nat} (h : Ty G c tl Γ (· = xs)) : TyI G c (iList K tl) (gName j) Γ [j] (· = xs.length) (fun i Γ => Γ.set j (some (itm xs i))) := fun z B σ H en s hz R r => by
  refine h z B σ H en s hz _ fun x v z1 B1 H1 ex n1 hv => ?_
  subst ex
  obtain ⟨p, us, rfl, e1, e2⟩ := hv
  refine ⟨p, rfl, ⟨us, sq_of (n1.at_.ex _ _ e1)⟩, r _ _ z1 B1 H1 rfl n1 (src_name itm_st (fun H e => ⟨us, sq_of (e _ _ e1), Nat.le_of_eq e2.len⟩) (fun i hi H e => ?_) fun i hi x' H H' e y => ?_)⟩
  · have lt : i < us.length := by rw [e2.len]; exact hi
    exact ⟨us, us[i], sq_of (e _ _ e1), List.getElem?_eq_getElem lt⟩
  · obtain ⟨q1, q2⟩ := y
    exact ⟨q1, e2.got (q2 us (sq_of (e _ _ e1)))⟩
theorem ti_rng1 {n : Int} {j : Nat} (h : TyA G c tr Γ [Py.is n]) (hn : -(2 ^ 62) ≤ n ∧ n < 2 ^ 62) : TyI G c (iRng1 tr) (gName j) Γ [j] (· = n.toNat) (fun i Γ => Γ.set j (some (Py.is (i : Int)))) := fun z B σ H en s hz R r => by
  refine h z B σ H en s hz _ fun vs z1 B1 H1 al n1 => ?_
  obtain ⟨v, rfl, hv⟩ := al.one
  cases (show v = .int n from hv)
  exact ⟨n, rfl, hn.1, hn.2, r _ _ z1 B1 H1 rfl n1 (src_name (fun i => Py.stays (i : Int)) (fun H e => Nat.le_refl _) (fun i hi H e => hi) fun i hi x' H H' e y => ⟨y.1, by rw [y.2]; show V.int _ = V.int _; rw [Int.zero_add]⟩)⟩
theorem ti_rng2 {lo n : Int} {j : Nat} (h : TyA G c tr Γ [Py.is lo, Py.is n]) (h1 : -(2 ^ 62) ≤ lo ∧ lo < 2 ^ 62) (hn : -(2 ^ 62) ≤ n ∧ n < 2 ^ 62) : TyI G c (iRng2 tr) (gName j) Γ [j] (· = (n - lo).toNat) (fun i Γ => Γ.set j (some (Py.is (lo + (i : Int))))) := fun z B σ H en s hz R r => by
  refine h z B σ H en s hz _ fun vs z1 B1 H1 al n1 => ?_
  obtain ⟨v, w, rfl, hv, hw⟩ := al.two
  cases (show v = .int lo from hv)
  cases (show w = .int n from hw)
  exact ⟨lo, n, rfl, ⟨h1.1, h1.2, hn.1, hn.2⟩, r _ _ z1 B1 H1 rfl n1 (src_name (fun i => Py.stays (lo + (i : Int))) (fun H e => Nat.le_refl _) (fun i hi H e => hi) fun i hi x' H H' e y => ⟨y.1, y.2⟩)⟩
/-- two names from a tuple that is made on the way -/
theorem src_two {J : It} {j k n : Nat} {f f' : Nat → VP} (st : ∀ i, Stays (f i)) (st' : ∀ i, Stays (f' i)) (h1 : ∀ H, Ex B H → J.stop n H) (h2 : ∀ i, i < n → ∀ H, Ex B H → J.go i H)
    (h3 : ∀ i, i < n → ∀ x H H', Ex B H → J.yld i H x H' → ∃ T a b, x = .ref T ∧ H T = none ∧ H' = upd H T (.tup [a, b]) ∧ f i a B ∧ f' i b B) :
    Src J (gTup K 2 (gCons (gName j) (gCons (gName k) gNil))) B [j, k] n (fun i Γ => (Γ.set j (some (f i))).set k (some (f' i))) :=
  ⟨h1, h2, fun i hi x H H' e y => by
    obtain ⟨T, a, b, rfl, nT, rfl, p, p'⟩ := h3 i hi x H H' e y
    refine ⟨Ex.new nT, fun σ Γ Bc en eb ec Q q => ⟨T, [a, b], rfl, st_of upd_same, rfl, a, _, rfl, b, _, rfl, rfl, ?_⟩⟩
    refine q _ ((en.set (st i) (st i _ _ _ eb p)).set (st' i) (st' i _ _ _ eb p')) fun vs hv => ?_
    rw [wipe_set _ k _ vs (hv k (by simp)), wipe_set _ j _ vs (hv j (by simp))]⟩
theorem ti_enum {xs : List α} {tr : TA} {j k : Nat} (h : TyA G c tr Γ [Py.is xs]) : TyI G c (iEnum K tr) (gTup K 2 (gCons (gName j) (gCons (gName k) gNil))) Γ [j, k] (· = xs.length) (fun i Γ => (Γ.set j (some (Py.is (i : Int)))).set k (some (itm xs i))) := fun z B σ H en s hz R r => by
  refine h z B σ H en s hz _ fun vs z1 B1 H1 al n1 => ?_
  obtain ⟨v, rfl, hv⟩ := al.one
  obtain ⟨p, us, rfl, e1, e2⟩ := hv
  refine ⟨p, us, rfl, sq_of (n1.at_.ex _ _ e1), r _ _ z1 B1 H1 rfl n1 (src_two (fun i => Py.stays (i : Int)) itm_st (fun H e => ⟨us, sq_of (e _ _ e1), Nat.le_of_eq e2.len⟩) (fun i hi H e => ?_) fun i hi x' H H' e y => ?_)⟩
  · have lt : i < us.length := by rw [e2.len]; exact hi
    exact ⟨us, us[i], sq_of (e _ _ e1), List.getElem?_eq_getElem lt⟩
  · obtain ⟨T, x, q1, q2, q3, q4⟩ := y
    exact ⟨T, _, x, q1, q2, q3, rfl, e2.got (q4 us (sq_of (e _ _ e1)))⟩
/-! ### loops -/
/-- the loop's word at a turn -/
def Lw (G : Option Addr) (z0 : Int) (B0 H0 Bs : Hp) (cc cb : Nat) (Inv : Nat → Ctx → Hp → Hp → Prop) (i : Nat) (σ : L2.St) (H : Hp) : Prop :=
  ∃ Γ z B, Inv i Γ B H ∧ Ex Bs B ∧ Nx G (cc + i * cb) z0 B0 H0 z B H ∧ Slo B σ Γ
theorem q_for {wi : TI} {js : List Nat} {cb : Nat} {An : Nat → Prop} {F : Nat → Ctx → Ctx} (s0 : At G z0 B0 H0) (n : Nx G c0 z0 B0 H0 z B H) (en : Slo B σ Γ) (h : TyI G c wi g Γ js An F) (hz : z0 + (c0 + c) ≤ 2 ^ 50)
    (Inv : Nat → Ctx → Hp → Hp → Prop)
    (h0 : ∀ z' B' H', Nx G c z B H z' B' H' → Slo B' σ Γ → Inv 0 Γ B' H')
    (up : ∀ i Γ B H H', Inv i Γ B H → Ex H H' → Inv i Γ B H')
    (hs : ∀ m, An m → ∀ Bs i Γ' z' B' H' σ', i < m → Inv i Γ' B' H' → Ex Bs B' → Nx G (c0 + c + i * cb) z0 B0 H0 z' B' H' → Slo B' σ' (F i Γ') →
      t { D with nx := Lw G z0 B0 H0 Bs (c0 + c) cb Inv (i + 1), ct := Lw G z0 B0 H0 Bs (c0 + c) cb Inv (i + 1), bk := D.nx } σ' H')
    (hd : ∀ m, An m → ∀ Γ' z' B' H' σ', Inv m Γ' B' H' → Nx G (c0 + c + m * cb) z0 B0 H0 z' B' H' → Slo B' σ' Γ' → D.nx σ' H') : tFor wi g t D σ H := by
  refine h z B σ H en n.at_ (by have := n.hi; omega) _ fun J m z1 B1 H1 am n1 src => ?_
  refine ⟨fun i k σ H => k + i = m ∧ Lw G z0 B0 H0 B1 (c0 + c) cb Inv i σ H, ⟨m, by omega, Γ, z1, B1, h0 z1 B1 H1 n1 (en.up n1.up), Ex.refl _, (n.trans s0 n1).le (by omega), en.up n1.up⟩, ?_⟩
  rintro i k σ2 H2 ⟨e, Γ2, z2, B2, i2, x2, n2, en2⟩
  rcases Nat.lt_or_ge i m with lt | ge
  · refine .inr ⟨src.go i lt H2 (x2.trans n2.at_.ex), Lw G z0 B0 H0 B1 (c0 + c) cb Inv (i + 1), fun σ' H' p => ⟨k - 1, by omega, by omega, p⟩, fun x H3 y => ?_⟩
    obtain ⟨e3, fin⟩ := src.yld i lt x H2 H3 (x2.trans n2.at_.ex) y
    refine fin σ2 Γ2 B2 en2 x2 n2.at_.ex _ fun σ' en3 _ => ?_
    exact hs m am B1 i Γ2 z2 B2 H3 σ' lt (up _ _ _ _ _ i2 e3) x2 ((n2.trans s0 (Nx.more n2.at_ e3)).le (by omega)) en3
  · cases (show i = m by omega)
    exact .inl ⟨src.stop H2 (x2.trans n2.at_.ex), hd m am Γ2 z2 B2 H2 σ2 i2 n2 en2⟩
theorem q_forS {wi : TI} {js : List Nat} {cb : Nat} {An : Nat → Prop} {F : Nat → Ctx → Ctx} (s0 : At G z0 B0 H0) (n : Nx G c0 z0 B0 H0 z B H) (en : Slo B σ Γ) (h : TyI G c wi g Γ js An F) (hz : z0 + (c0 + c) ≤ 2 ^ 50)
    (Inv : Nat → Ctx → Hp → Hp → Prop)
    (h0 : ∀ z' B' H', Nx G c z B H z' B' H' → Slo B' σ Γ → Inv 0 Γ B' H')
    (up : ∀ i Γ B H H', Inv i Γ B H → Ex H H' → Inv i Γ B H')
    (hs : ∀ m, An m → ∀ Bs i Γ' z' B' H' σ', i < m → Inv i Γ' B' H' → Ex Bs B' → Nx G (c0 + c + i * cb) z0 B0 H0 z' B' H' → Slo B' σ' (F i Γ') →
      t { D with nx := Lw G z0 B0 H0 Bs (c0 + c) cb Inv (i + 1), ct := Lw G z0 B0 H0 Bs (c0 + c) cb Inv (i + 1), bk := tz D } σ' H')
    (hd : ∀ m, An m → ∀ Γ' z' B' H' σ', Inv m Γ' B' H' → Nx G (c0 + c + m * cb) z0 B0 H0 z' B' H' → Slo B' σ' Γ' → tz D σ' H') : tSeq (tFor wi g t) tz D σ H :=
  q_for (D := { D with nx := tz D }) s0 n en h hz Inv h0 up hs hd
/-- a while, by a word that falls -/
theorem q_while {cb : Nat} (s0 : At G z0 B0 H0) (n : Nx G c0 z0 B0 H0 z B H) (en : Slo B σ Γ) (Inv : Nat → Nat → Ctx → Hp → Hp → Prop) (m0 : Nat) (h0 : Inv 0 m0 Γ B H)
    (hs : ∀ i m Γ' z' B' H' σ', Inv i m Γ' B' H' → Nx G (c0 + i * cb) z0 B0 H0 z' B' H' → Slo B' σ' Γ' →
      ∃ b, (∀ Q : Bool → Hp → Prop, (∀ z2 B2 H2, Nx G cb z' B' H' z2 B2 H2 → Slo B2 σ' Γ' → Q b H2) → tt σ' H' Q) ∧
      (b = true → ∀ z2 B2 H2, Nx G cb z' B' H' z2 B2 H2 → Slo B2 σ' Γ' → ∃ N : L2.St → Hp → Prop, (∀ σ3 H3, N σ3 H3 → ∃ m' Γ3 z3 B3, m' < m ∧ Inv (i + 1) m' Γ3 B3 H3 ∧ Nx G (c0 + (i + 1) * cb) z0 B0 H0 z3 B3 H3 ∧ Slo B3 σ3 Γ3) ∧ t { D with nx := N, ct := N, bk := D.nx } σ' H2) ∧
      (b = false → ∀ z2 B2 H2, Nx G cb z' B' H' z2 B2 H2 → Nx G (c0 + (i + 1) * cb) z0 B0 H0 z2 B2 H2 → Slo B2 σ' Γ' → D.nx σ' H2)) : tWhile tt t D σ H := by
  refine ⟨fun m σ H => ∃ i Γ z B, Inv i m Γ B H ∧ Nx G (c0 + i * cb) z0 B0 H0 z B H ∧ Slo B σ Γ, ⟨m0, 0, Γ, z, B, h0, n.le (by omega), en⟩, ?_⟩
  rintro m σ2 H2 ⟨i, Γ2, z2, B2, i2, n2, en2⟩
  obtain ⟨b, hb, k1, k2⟩ := hs i m Γ2 z2 B2 H2 σ2 i2 n2 en2
  refine hb _ fun z3 B3 H3 n3 en3 => ?_
  cases b with
  | true =>
    obtain ⟨N, hN, run⟩ := k1 rfl z3 B3 H3 n3 en3
    refine ⟨N, fun σ' H' p => ?_, run⟩
    obtain ⟨m', Γ4, z4, B4, lt, i4, n4, en4⟩ := hN σ' H' p
    exact ⟨m', lt, i + 1, Γ4, z4, B4, i4, n4, en4⟩
  | false => exact k2 rfl z3 B3 H3 n3 ((n2.trans s0 n3).le (by rw [Nat.add_mul]; omega)) en3
/-! ### comprehensions -/
/-- the turns' words: which were kept, with what -/
inductive Sel {α : Type} (T : Nat → Bool → Prop) (A : Nat → α → Prop) : Nat → List α → Prop
  | nil : Sel T A 0 []
  | no {i : Nat} {ys : List α} : Sel T A i ys → T i false → Sel T A (i + 1) ys
  | yes {i : Nat} {ys : List α} {y : α} : Sel T A i ys → T i true → A i y → Sel T A (i + 1) (ys ++ [y])
theorem Sel.len {T : Nat → Bool → Prop} {A : Nat → α → Prop} : ∀ {i : Nat} {ys : List α}, Sel T A i ys → ys.length ≤ i
  | _, _, .nil => Nat.le_refl _
  | _, _, .no h _ => Nat.le_succ_of_le (Sel.len h)
  | _, _, .yes h _ _ => by rw [List.length_append]; exact Nat.succ_le_succ (Sel.len h)
theorem ty_lc {wi : TI} {js vs : List Nat} {M ct cb : Nat} {An : Nat → Prop} {F : Nat → Ctx → Ctx} {T : Nat → Bool → Prop} {A : Nat → α → Prop} (h : TyI G c wi g Γ js An F) (hM : ∀ m, An m → m ≤ M) (hm : M ≤ 40000) (hj : ∀ j ∈ js, j ∈ vs)
    (ht : ∀ m, An m → ∀ i, i < m → TyT G ct tt (F i (wipeC Γ vs)) (T i)) (he : ∀ m, An m → ∀ i, i < m → T i true → Ty G cb te (F i (wipeC Γ vs)) (A i)) :
    Ty G (c + M * (ct + cb)) (tLc wi g tt te vs) Γ (fun ys => ∃ m, An m ∧ Sel T A m ys) := fun z B σ H en s hz Q q => by
  refine h z B σ H en s (by omega) _ fun J m z1 B1 H1 am n1 src => fun D hD => ?_
  have mM := hM m am
  have hz : z + ((c + m * (ct + cb) : Nat) : Int) ≤ 2 ^ 50 := by
    have : m * (ct + cb) ≤ M * (ct + cb) := Nat.mul_le_mul_right _ mM
    generalize m * (ct + cb) = w1 at this ⊢
    generalize M * (ct + cb) = w2 at this hz
    omega
  replace q : ∀ (x : List α) (v : V) (z' : Int) (B' H' : Hp), Sel T A m x → Nx G (c + m * (ct + cb)) z B H z' B' H' → Py.is x v B' → Q v H' := fun x v z' B' H' sx nx => q x v z' B' H' ⟨m, am, sx⟩ (nx.le (Nat.add_le_add_left (Nat.mul_le_mul_right _ mM) _))
  -- the word: the base without the new list
  refine ⟨fun i k H' => k + i = m ∧ ∃ ys us z' B', Sel T A i ys ∧ Each B' ys us ∧ H' D = some (.lst us) ∧ B' D = none ∧ Ex B1 B' ∧ Nx G (c + i * (ct + cb)) z B H z' B' H', ⟨m, by omega, [], [], z1, B1, .nil, .nil, upd_same, ?_, Ex.refl _, ?_⟩, ?_⟩
  · cases e : B1 D with
    | none => rfl
    | some o => rw [n1.at_.ex _ _ e] at hD; cases hD
  · exact (n1.trans s (Nx.more n1.at_ (Ex.new hD))).le (by omega)
  rintro i k H2 ⟨e, ys, us, z2, B2, sel, ea, hD2, nD, x2, n2⟩
  have nDH : H D = none := n1.gone s hD
  have gD : G ≠ some D := fun hg => by
    obtain ⟨_, _, _, q1, _⟩ := s.gen D hg
    rw [q1] at nDH
    cases nDH
  rcases Nat.lt_or_ge i m with lt | ge
  · have succ : (i + 1) * (ct + cb) = i * (ct + cb) + (ct + cb) := by rw [Nat.add_mul, Nat.one_mul]
    have bound : z + ((c + i * (ct + cb) + (ct + cb) : Nat) : Int) ≤ 2 ^ 50 := by
      have h1 : (i + 1) * (ct + cb) ≤ m * (ct + cb) := Nat.mul_le_mul_right _ lt
      have h2 : (i + 1) * (ct + cb) = i * (ct + cb) + (ct + cb) := by rw [Nat.add_mul, Nat.one_mul]
      rw [h2] at h1
      generalize i * (ct + cb) = w1 at h1 ⊢
      generalize m * (ct + cb) = w2 at h1 hz
      omega
    have dropNx : ∀ {z' : Int} {B' H' : Hp} {c' : Nat} (o : HO), B' D = none → Nx G c' z B H z' B' H' → Nx G c' z B H z' B' (upd H' D o) := fun {z' B' H' c'} o nB nx => by
      refine ⟨⟨fun a u ha => ?_, fun g' hg => ?_⟩, nx.up, nx.new, nx.lo, nx.hi, fun a u hg ha => ?_⟩
      · rw [upd_ne (ne_of_none ha nB)]
        exact nx.at_.ex a u ha
      · obtain ⟨q1, x, y, q2, q3⟩ := nx.at_.gen g' hg
        exact ⟨q1, x, y, by rw [upd_ne (fun z => gD (by rw [hg, z]))]; exact q2, q3⟩
      · rw [upd_ne (ne_of_none ha nDH)]
        exact nx.keep a u hg ha
    generalize hw' : i * (ct + cb) = w at n2 bound succ
    refine .inr ⟨src.go i lt H2 (x2.trans n2.at_.ex), fun H' => ∃ ys us z' B', Sel T A (i + 1) ys ∧ Each B' ys us ∧ H' D = some (.lst us) ∧ B' D = none ∧ Ex B1 B' ∧ Nx G (c + (i + 1) * (ct + cb)) z B H z' B' H', fun H' p => ⟨k - 1, by omega, by omega, p⟩, fun x H3 y => ?_⟩
    obtain ⟨e3, fin⟩ := src.yld i lt x H2 H3 (x2.trans n2.at_.ex) y
    have enB : Slo B2 (L2.wipe σ vs) (wipeC Γ vs) := (en.up n2.up).wipe vs
    refine fin (L2.wipe σ vs) (wipeC Γ vs) B2 enB x2 n2.at_.ex _ fun σ' en3 hw => ⟨?_, ?_⟩
    · have : ∀ (us : List Nat) (τ : L2.St), L2.wipe (L2.wipe τ us) us = L2.wipe τ us := by
        intro us
        induction us with
        | nil => intro τ; rfl
        | cons u us ih =>
          intro τ
          show (L2.wipe ((L2.wipe τ us).set u none) us).set u none = (L2.wipe τ us).set u none
          by_cases hu : u ∈ us
          · rw [wipe_set _ u _ us hu, ih]
          · have com : ∀ (ws : List Nat) (τ : L2.St), (L2.wipe (τ.set u none) ws).set u none = (L2.wipe τ ws).set u none := by
              intro ws
              induction ws with
              | nil => intro τ; show (τ.set u none).set u none = _; rw [List.set_set]; rfl
              | cons w ws ih2 =>
                intro τ
                show ((L2.wipe (τ.set u none) ws).set w none).set u none = ((L2.wipe τ ws).set w none).set u none
                by_cases k : w = u
                · subst k
                  rw [List.set_set, List.set_set]
                  exact ih2 τ
                · rw [List.set_comm _ _ k, List.set_comm _ _ k, ih2]
            rw [com us, ih]
      rw [hw vs hj, this]
    have n3 : Nx G (c + w) z B H z2 B2 H3 := (n2.trans s (Nx.more n2.at_ e3)).le (by omega)
    have keepD : ∀ {c' : Nat} {za zb : Int} {Ba Bb Ha Hb : Hp} {vs : List V}, Nx G c' za Ba Ha zb Bb Hb → Ha D = some (.lst vs) → Ba D = none → Hb D = some (.lst vs) ∧ Bb D = none := fun {c' za zb Ba Bb Ha Hb vs} nx hd hb => by
      refine ⟨nx.keep D _ gD hd, ?_⟩
      cases e : Bb D with
      | none => rfl
      | some o =>
        rcases nx.new D o e with h | h
        · rw [hb] at h; cases h
        · exact (h.no hd).elim
    refine ht m am i lt z2 B2 σ' H3 en3 n3.at_ (by have := n3.hi; omega) _ fun b z4 B4 H4 tb n4 => ?_
    obtain ⟨hD4, nD4⟩ := keepD n4 (e3 D _ hD2) nD
    cases b with
    | false =>
      show ∃ ys us z' B', _
      refine ⟨ys, us, z4, B4, .no sel tb, ea.ex n4.up, hD4, nD4, x2.trans n4.up, (n3.trans s n4).le (by rw [succ]; omega)⟩
    | true =>
      show te σ' H4 fun y H5 => _
      refine he m am i lt tb z4 B4 σ' H4 (en3.up n4.up) n4.at_ (by have := n3.hi; have := n4.hi; omega) _ fun y v z5 B5 H5 ay n5 hv => ?_
      obtain ⟨hD5, nD5⟩ := keepD n5 hD4 nD4
      refine ⟨us, hD5, sz_lt (by rw [ea.len]; have := sel.len; omega), ys ++ [y], us ++ [v], z5, B5, .yes sel tb ay, ((ea.ex n4.up).ex n5.up).snoc hv, upd_same, nD5, (x2.trans n4.up).trans n5.up, dropNx _ nD5 (((n3.trans s n4).trans s n5).le (by rw [succ]; omega))⟩
  · cases (show i = m by omega)
    refine .inl ⟨src.stop H2 (x2.trans n2.at_.ex), ?_⟩
    refine q ys (.ref D) z2 (upd B2 D (.lst us)) H2 sel ⟨⟨fun a u ha => ?_, fun g' hg => ?_⟩, n2.up.trans (Ex.new nD), fun a u ha => ?_, n2.lo, n2.hi, n2.keep⟩ ⟨D, us, rfl, upd_same, ea.ex (Ex.new nD)⟩
    · by_cases e : a = D
      · subst e
        rw [upd_same] at ha
        rw [hD2, ha]
      · rw [upd_ne e] at ha
        exact n2.at_.ex a u ha
    · obtain ⟨q1, q2⟩ := n2.at_.gen g' hg
      exact ⟨by rw [upd_ne (fun z => gD (by rw [hg, z]))]; exact q1, q2⟩
    · by_cases e : a = D
      · subst e
        exact .inr (.inl nDH)
      · rw [upd_ne e] at ha
        exact n2.new a u ha
/-- all is told -/
theorem sel_det {T : Nat → Bool → Prop} {A : Nat → α → Prop} (p : Nat → Bool) (f : Nat → α) (hT : ∀ i b, T i b → b = p i) (hA : ∀ i y, A i y → y = f i) :
    ∀ {m : Nat} {ys : List α}, Sel T A m ys → ys = ((List.range m).filter p).map f
  | _, _, .nil => rfl
  | _, _, .no (i := i) h t => by
    have ih := sel_det p f hT hA h
    have e := hT i false t
    rw [List.range_succ, List.filter_append, List.map_append, ← ih, List.filter_cons, if_neg (by rw [← e]; decide)]
    show _ = _ ++ []
    rw [List.append_nil]
  | _, _, .yes (i := i) h t a => by
    have ih := sel_det p f hT hA h
    have e := hT i true t
    rw [List.range_succ, List.filter_append, List.map_append, ← ih, List.filter_cons, if_pos e.symm, hA i _ a] <;> rfl
end
end AP
set_option maxHeartbeats 4000000
/-! A def's promise by its body; calls of such defs; values of any kind. -/
namespace AP
open PySem PySem.Spec PyProof.Rows L2 Evl
section
variable {P : Program} {w : World} {K : PySem.W.Frag} {mg : Str → Option Value} {base : Heap} {ι β : Type} [Py β]
/-- the rest of a def's body: what it has to come to -/
abbrev Back (C : Con ι β) (i : ι) (G : Option Addr) (z0 : Int) (B0 H0 : Hp) (Q : VK) : Prop :=
  ∀ y w z' B' H', C.post i y → Nx G (C.c i) z0 B0 H0 z' B' H' → Py.is y w B' → Q w H'
theorem con_go {x qual : Str} {st : Stmt} {f : Addr} {fd : FuncData} {N ps : List Str} {k : Nat}
    (F : Df K x qual st [] f fd) (S : FnScope N ps (defScope st)) (C : Con ι β) (hl : ∀ i, (C.args i).length = ps.length)
    (body : ∀ (cdv : Value) (A : Around) (outer : List PySem.Env) (s : Shared) (H : Hp) (E : XK) (i : ι) (G : Option Addr) (z0 : Int) (B0 : Hp),
      Room k (A.deeper (envOfC qual (defScope st) s.heap.objs.size f cdv)) → C.pre i G → At G z0 B0 H → z0 + C.c i ≤ 2 ^ 50 →
        ∃ t, PSs (cxOf CX0 P w K mg base N qual (defScope st) f cdv A outer s H E).nox (defBody st) t ∧
          ∀ (σ : L2.St) (Q : VK), Slo B0 σ (ctx0 N.length (C.args i)) → Back C i G z0 B0 H Q → t { nx := fun _ H' => Q .non H', rt := Q } σ H) :
    FnOk P w K mg base CX0 (k + 1) f fd ps C.sp := by
  refine F.go S (fun vs H Q E h => ?_) (fun cdv A outer s H vs Q E hr h => ?_)
  · obtain ⟨i, _, _, _, al, _⟩ := h
    rw [al.len]
    exact hl i
  · obtain ⟨i, G, z0, B0, al, hp, at0, hz, q⟩ := h
    obtain ⟨t, ht, run⟩ := body cdv A outer s H E i G z0 B0 hr hp at0 hz
    exact ⟨t, ht, run _ Q (Slo.start al) q⟩
theorem con_goG {x qual : Str} {st : Stmt} {f : Addr} {fd : FuncData} {N ps : List Str} {k : Nat}
    (F : Df K x qual st [] f fd) (S : FnScope N ps (defScope st)) (C : Con ι β) (hl : ∀ i, (C.args i).length = ps.length)
    (body : ∀ (cdv : Value) (A : Around) (outer : List PySem.Env) (s : Shared) (H : Hp) (E : XK) (i : ι) (G : Option Addr) (z0 : Int) (B0 : Hp),
      (A.deeper (envOfC qual (defScope st) s.heap.objs.size f cdv)).guards = some [] →
      Room k (A.deeper (envOfC qual (defScope st) s.heap.objs.size f cdv)) → C.pre i G → At G z0 B0 H → z0 + C.c i ≤ 2 ^ 50 →
        ∃ t, PSs (cxOf CX0 P w K mg base N qual (defScope st) f cdv A outer s H E).nox (defBody st) t ∧
          ∀ (σ : L2.St) (Q : VK), Slo B0 σ (ctx0 N.length (C.args i)) → Back C i G z0 B0 H Q → t { nx := fun _ H' => Q .non H', rt := Q } σ H) :
    FnG P w K mg base CX0 (k + 1) f fd ps C.sp := by
  refine F.goG S (fun vs H Q E h => ?_) (fun cdv A outer s H vs Q E ng hr h => ?_)
  · obtain ⟨i, _, _, _, al, _⟩ := h
    rw [al.len]
    exact hl i
  · obtain ⟨i, G, z0, B0, al, hp, at0, hz, q⟩ := h
    obtain ⟨t, ht, run⟩ := body cdv A outer s H E i G z0 B0 ng hr hp at0 hz
    exact ⟨t, ht, run _ Q (Slo.start al) q⟩
/-- a def of the text that keeps its promise: all that a caller needs -/
structure Fo (P : Program) (w : World) (K : PySem.W.Frag) (mg : Str → Option Value) (base : Heap) (x : Str) (k : Nat) (ps : List Str) (sp : Sp) : Prop where
  ex : ∃ (f : Addr) (fd : FuncData), mg x = some (.ref f) ∧ PySem.W.keepIn K (.ref f) = true ∧ Binds K fd ps [] ∧
    (∀ (s : Shared) (ws : List Value), K.In s.heap → ws.length = ps.length → BindsTo s fd ⟨[], ps.reverse.zip ws⟩ (ps.zip ws.reverse)) ∧ FnOk P w K mg base CX0 k f fd ps sp
theorem Fo.mk' {x qual : Str} {st : Stmt} {f : Addr} {fd : FuncData} {ps : List Str} {k : Nat} {sp : Sp} (F : Df K x qual st [] f fd) (m : mg x = some (.ref f)) (G : FnOk P w K mg base CX0 k f fd ps sp)
    (b : ∀ (kV doc pm : Value) (an : Option Addr) (cdv ct : Value) (us : List Value), us.length = ps.length → bindArgs (PySem.W.fnOf x qual (defArgs st) (defBody st) (defScope st) .none kV doc pm an cdv ct) ⟨us, []⟩ = pure (ps.zip us))
    (bk : ∀ (kV doc pm : Value) (an : Option Addr) (cdv ct : Value) (us : List Value), us.length = ps.length → bindArgs (PySem.W.fnOf x qual (defArgs st) (defBody st) (defScope st) .none kV doc pm an cdv ct) ⟨[], ps.reverse.zip us⟩ = pure (ps.zip us.reverse)) :
    Fo P w K mg base x k ps sp := by
  refine ⟨f, fd, m, F.kp, FunD.bindsN F b, fun s ws _ hl => ?_, G⟩
  obtain ⟨oc, od, dV, kV, doc, pm, an, cdv, ct, osl, rfl, lk, hcd, hD, hK⟩ := F.ex
  rcases hD with ⟨_, rfl⟩ | ⟨e, _⟩
  · exact .of_eq (bk kV doc pm an cdv ct ws hl)
  · exact absurd rfl e
theorem Fo.mono {x : Str} {j k : Nat} {ps : List Str} {sp : Sp} (F : Fo P w K mg base x j ps sp) (h : j ≤ k) : Fo P w K mg base x k ps sp := by
  obtain ⟨f, fd, a, b, c, d, e⟩ := F.ex
  exact ⟨f, fd, a, b, c, d, e.mono h⟩
end
section
variable {X : Cx} {k : Nat} {ps : List Str} {sp : Sp} {x : Str} {p pos : Pos} {e : Expr} {es : List Expr} {t : TA}
theorem pe_fo (F : Fo X.prog X.w X.K X.mg X.base x k ps sp) (hr : Room k X.A) (hg : Gl X x) (ha : PA X (e :: es) t) (hdb : (x == ("__debug__" : Str)) = false := by decide)
    (he : starEach (e :: es) X.env = (false, eval e X.env) :: starEach es X.env := by rfl)
    (hpl : (backTo pos (starEach es X.env)).any (·.1) = false := by rfl) :
    PE X (.Call (.Name x p) (e :: es) [] pos) (tCall sp [] (fun _ _ _ => False) t) := by
  obtain ⟨f, fd, m, kp, b, _, G⟩ := F.ex
  exact pe_call G hr hg m kp b .nil pass0 ha hdb he hpl
/-- all arguments by their names, the last one first -/
theorem pe_fok {kws : List Keyword} {tk : TA} (F : Fo X.prog X.w X.K X.mg X.base x k ps sp) (hr : Room k X.A) (hg : Gl X x) (hkw : PK X kws tk) (hdb : (x == ("__debug__" : Str)) = false := by decide)
    (hall : (backToKw pos (keywordEach kws X.env)).all (·.1.isSome) = true := by rfl) (hks : (backToKw pos (keywordEach kws X.env)).filterMap (·.1) = ps.reverse := by rfl)
    (hpl : ((backTo pos (starEach [] X.env)).any (·.1) || (backToKw pos (keywordEach kws X.env)).any (·.1.isNone)) = false := by rfl) :
    PE X (.Call (.Name x p) [] kws pos) (tCallK sp (fun _ ks => ks.reverse) (fun _ _ _ => False) tNil tk) := by
  obtain ⟨f, fd, m, kp, _, kb, G⟩ := F.ex
  refine ⟨fun pins s σ H Q I h => wpAny_Call_Name_kw (ld_glob I hg m ?_ hdb)⟩
  refine PySem.W.callWith_KW0 (h₀ := X.base) I.ok.mod.kin kp hall (thn (hkw.run pos pins s σ H _ I h) fun ws s2 hs => ?_) hpl
  obtain ⟨zs, H2, I2, rz, q⟩ := hs
  refine ⟨I2.kIn, ?_⟩
  rw [hks]
  have rr : Vals zs.reverse ws.reverse := by
    have : ∀ {zs : List V} {ws : List Value}, Vals zs ws → Vals zs.reverse ws.reverse := by
      intro zs ws h
      induction h with
      | nil => exact .nil
      | cons r _ ih =>
        rw [List.reverse_cons, List.reverse_cons]
        exact ih.append (.cons r .nil)
    exact this rz
  have hl : ws.length = ps.length := by
    have h1 := G.len _ _ _ _ q
    have h2 := rz.length
    rw [List.length_reverse] at h1
    omega
  refine wpAny_call (codeAny_mono (G.run X.A X.stack s2 H2 ⟨[], ps.reverse.zip ws⟩ ws.reverse zs.reverse Q _ hr I2.env0 (kb s2 ws I2.kIn hl) rr q) fun r s' hq => ?_)
  cases r with
  | error e => exact hq.elim
  | ok fl =>
    cases fl with
    | ret u => exact I2.after hq
    | next => exact hq.elim
    | brk => exact hq.elim
    | cont => exact hq.elim
end
section
variable {K : PySem.W.Frag} {G : Option Addr} {c c1 c2 c3 : Nat} {te ta tb tx : TE} {tt : TT} {Γ : Ctx} {ι α β : Type} [Py α] [Py β] {A : α → Prop} {tr : TA} {B B' H : Hp} {v w : V}
/-- keywords in turn, told from behind -/
theorem Alls.rev : ∀ {Ps : List VP} {vs : List V}, Alls B Ps vs → Alls B Ps.reverse vs.reverse
  | _, _, .nil => .nil
  | _, _, .cons st h r => by
    rw [List.reverse_cons, List.reverse_cons]
    exact (Alls.rev r).app (.cons st h .nil)
theorem ty_callR {C : Con ι β} {E : XK} {tk : TA} (i : ι) (hk : TyA G c tk Γ (C.args i).reverse) (p : C.pre i G) : Ty G (0 + c + C.c i) (tCallK C.sp (fun _ ks => ks.reverse) E tNil tk) Γ (C.post i) :=
  ty_callK i ta_nil hk p fun vs ks B _ al => by
    have := al.rev
    rw [List.reverse_reverse] at this
    exact this
/-! ### comprehensions, all told -/
theorem ty_lcL {xs : List α} {p : α → Bool} {f : α → β} {tl : TE} {j : Nat} {vs : List Nat} (h : Ty G c tl Γ (· = xs)) (hm : xs.length ≤ 40000) (hj : j ∈ vs)
    (ht : ∀ x, x ∈ xs → TyT G 0 tt ((wipeC Γ vs).set j (some (Py.is x))) (· = p x)) (he : ∀ x, x ∈ xs → p x = true → Ty G 0 te ((wipeC Γ vs).set j (some (Py.is x))) (· = f x)) :
    Ty G c (tLc (iList K tl) (gName j) tt te vs) Γ (· = (xs.filter p).map f) := by
  refine Ty.le (c1 := c + xs.length * (0 + 0)) ?_ (by simp)
  refine (ty_lc (T := fun i b => ∃ x, xs[i]? = some x ∧ b = p x) (A := fun i y => ∃ x, xs[i]? = some x ∧ y = f x) (M := xs.length) (ti_list h) (fun m e => Nat.le_of_eq e) hm (by simpa using hj) (fun m em i hi => ?_) fun m em i hi hp => ?_).imp fun ys ⟨m, em, sel⟩ => ?_
  · subst em
    have e := List.getElem?_eq_getElem hi
    rw [itm_eq e]
    exact (ht _ (List.getElem_mem hi)).imp fun b q => ⟨_, e, q⟩
  · subst em
    have e := List.getElem?_eq_getElem hi
    rw [itm_eq e]
    obtain ⟨x, e2, q⟩ := hp
    rw [e] at e2
    cases e2
    exact (he _ (List.getElem_mem hi) q.symm).imp fun b q => ⟨_, e, q⟩
  · subst em
    have key : ∀ (m : Nat) (ys : List β), Sel (fun i b => ∃ x, xs[i]? = some x ∧ b = p x) (fun i y => ∃ x, xs[i]? = some x ∧ y = f x) m ys → ys = ((xs.take m).filter p).map f := by
      intro m ys sel
      induction sel with
      | nil => rfl
      | no h t ih =>
        obtain ⟨x, e, q⟩ := t
        rw [List.take_add_one, e, List.filter_append, List.map_append, ← ih]
        show _ = _ ++ List.map f (List.filter p [x])
        rw [List.filter_cons, if_neg (by rw [← q]; decide)]
        show _ = _ ++ []
        rw [List.append_nil]
      | yes h t a ih =>
        obtain ⟨x, e, q⟩ := t
        obtain ⟨x', e', q'⟩ := a
        rw [e] at e'
        cases e'
        rw [List.take_add_one, e, List.filter_append, List.map_append, ← ih]
        show _ = _ ++ List.map f (List.filter p [x])
        rw [List.filter_cons, if_pos q.symm, q'] <;> rfl
    have := key _ _ sel
    rw [List.take_length] at this
    exact this
theorem ty_lcM {xs : List α} {f : α → β} {tl : TE} {j : Nat} {vs : List Nat} (h : Ty G c tl Γ (· = xs)) (hm : xs.length ≤ 40000) (hj : j ∈ vs)
    (he : ∀ x, x ∈ xs → Ty G 0 te ((wipeC Γ vs).set j (some (Py.is x))) (· = f x)) :
    Ty G c (tLc (iList K tl) (gName j) tYes te vs) Γ (· = xs.map f) :=
  (ty_lcL (p := fun _ => true) h hm hj (fun x _ => tt_yes) fun x hx _ => he x hx).to (by rw [List.filter_eq_self.mpr fun _ _ => rfl])
theorem ty_lcR2 {lo n : Int} {p : Int → Bool} {f : Int → β} {j : Nat} {vs : List Nat} (h : TyA G c tr Γ [Py.is lo, Py.is n]) (h1 : -(2 ^ 62) ≤ lo ∧ lo < 2 ^ 62) (hn : -(2 ^ 62) ≤ n ∧ n < 2 ^ 62) (hm : (n - lo).toNat ≤ 40000) (hj : j ∈ vs)
    (ht : ∀ x, lo ≤ x → x < n → TyT G 0 tt ((wipeC Γ vs).set j (some (Py.is x))) (· = p x)) (he : ∀ x, lo ≤ x → x < n → p x = true → Ty G 0 te ((wipeC Γ vs).set j (some (Py.is x))) (· = f x)) :
    Ty G c (tLc (iRng2 tr) (gName j) tt te vs) Γ (· = (((List.range (n - lo).toNat).map fun i : Nat => lo + (i : Int)).filter p).map f) := by
  refine Ty.le (c1 := c + (n - lo).toNat * (0 + 0)) ?_ (by simp)
  refine (ty_lc (T := fun i b => b = p (lo + (i : Int))) (A := fun i y => y = f (lo + (i : Int))) (M := (n - lo).toNat) (ti_rng2 h h1 hn) (fun m e => Nat.le_of_eq e) hm (by simpa using hj) (fun m em i hi => ht _ (by omega) (by omega)) fun m em i hi hp => he _ (by omega) (by omega) hp.symm).imp fun ys ⟨m, em, sel⟩ => ?_
  subst em
  rw [sel_det (fun i => p (lo + (i : Int))) (fun i => f (lo + (i : Int))) (fun _ _ q => q) (fun _ _ q => q) sel, List.filter_map, List.map_map]
  rfl
theorem ty_lcR1 {n : Int} {p : Int → Bool} {f : Int → β} {j : Nat} {vs : List Nat} (h : TyA G c tr Γ [Py.is n]) (hn : -(2 ^ 62) ≤ n ∧ n < 2 ^ 62) (hm : n.toNat ≤ 40000) (hj : j ∈ vs)
    (ht : ∀ x, 0 ≤ x → x < n → TyT G 0 tt ((wipeC Γ vs).set j (some (Py.is x))) (· = p x)) (he : ∀ x, 0 ≤ x → x < n → p x = true → Ty G 0 te ((wipeC Γ vs).set j (some (Py.is x))) (· = f x)) :
    Ty G c (tLc (iRng1 tr) (gName j) tt te vs) Γ (· = (((List.range n.toNat).map fun i : Nat => (i : Int)).filter p).map f) := by
  refine Ty.le (c1 := c + n.toNat * (0 + 0)) ?_ (by simp)
  refine (ty_lc (T := fun i b => b = p (i : Int)) (A := fun i y => y = f (i : Int)) (M := n.toNat) (ti_rng1 h hn) (fun m e => Nat.le_of_eq e) hm (by simpa using hj) (fun m em i hi => ht _ (by omega) (by omega)) fun m em i hi hp => he _ (by omega) (by omega) hp.symm).imp fun ys ⟨m, em, sel⟩ => ?_
  subst em
  rw [sel_det (fun i => p (i : Int)) (fun i => f (i : Int)) (fun _ _ q => q) (fun _ _ q => q) sel, List.filter_map, List.map_map]
  rfl
end
/-! ### values of any kind -/
inductive Dat where
  | non
  | bl (b : Bool)
  | int (n : Int)
  | str (s : Str)
  | lst (ds : List Dat)
  | tup (ds : List Dat)
  | dic
mutual
inductive DatV (B : Hp) : Dat → V → Prop
  | non : DatV B .non .non
  | bl (b : Bool) : DatV B (.bl b) (.bl b)
  | int (n : Int) : DatV B (.int n) (.int n)
  | str (s : Str) : DatV B (.str s) (.str s)
  | lst {p : Addr} {vs : List V} {ds : List Dat} : B p = some (.lst vs) → DatVs B ds vs → DatV B (.lst ds) (.ref p)
  | tup {p : Addr} {vs : List V} {ds : List Dat} : B p = some (.tup vs) → DatVs B ds vs → DatV B (.tup ds) (.ref p)
  | dic {p : Addr} : B p = some (.dK []) → DatV B .dic (.ref p)
inductive DatVs (B : Hp) : List Dat → List V → Prop
  | nil : DatVs B [] []
  | cons {d : Dat} {v : V} {ds : List Dat} {vs : List V} : DatV B d v → DatVs B ds vs → DatVs B (d :: ds) (v :: vs)
end
mutual
theorem DatV.ex {B B' : Hp} (e : Ex B B') : ∀ {d : Dat} {v : V}, DatV B d v → DatV B' d v
  | _, _, .non => .non
  | _, _, .bl b => .bl b
  | _, _, .int n => .int n
  | _, _, .str s => .str s
  | _, _, .lst h r => .lst (e _ _ h) (DatVs.ex e r)
  | _, _, .tup h r => .tup (e _ _ h) (DatVs.ex e r)
  | _, _, .dic h => .dic (e _ _ h)
theorem DatVs.ex {B B' : Hp} (e : Ex B B') : ∀ {d : List Dat} {v : List V}, DatVs B d v → DatVs B' d v
  | _, _, .nil => .nil
  | _, _, .cons h r => .cons (DatV.ex e h) (DatVs.ex e r)
end
instance : Py Dat := ⟨fun d v B => DatV B d v, fun _ _ _ _ e h => DatV.ex e h⟩
theorem DatVs.each {B : Hp} : ∀ {ds : List Dat} {vs : List V}, DatVs B ds vs → Each B ds vs
  | _, _, .nil => .nil
  | _, _, .cons h r => .cons h (DatVs.each r)
theorem Each.dats {B : Hp} : ∀ {ds : List Dat} {vs : List V}, Each B ds vs → DatVs B ds vs
  | _, _, .nil => .nil
  | _, _, .cons h r => .cons h (Each.dats r)
theorem dat_lst {ds : List Dat} {v : V} {B : Hp} (h : Py.is ds v B) : Py.is (Dat.lst ds) v B := by
  obtain ⟨p, vs, rfl, h1, h2⟩ := h
  exact .lst h1 h2.dats
theorem lst_dat {ds : List Dat} {v : V} {B : Hp} (h : Py.is (Dat.lst ds) v B) : Py.is ds v B := by
  cases (show DatV B (.lst ds) v from h) with
  | lst h1 h2 => exact ⟨_, _, rfl, h1, h2.each⟩
theorem dat_int {n : Int} {v : V} {B : Hp} (h : Py.is n v B) : Py.is (Dat.int n) v B := by
  cases (show v = .int n from h)
  exact .int n
theorem int_dat {n : Int} {v : V} {B : Hp} (h : Py.is (Dat.int n) v B) : Py.is n v B := by
  cases (show DatV B (.int n) v from h)
  rfl
theorem ints_dats {ns : List Int} {v : V} {B : Hp} (h : Py.is ns v B) : Py.is (ns.map Dat.int) v B := by
  obtain ⟨p, vs, rfl, h1, h2⟩ := h
  refine ⟨p, vs, rfl, h1, ?_⟩
  clear h1
  induction h2 with
  | nil => exact .nil
  | cons h _ ih => exact .cons (dat_int h) ih
theorem dats_ints {ns : List Int} {v : V} {B : Hp} (h : Py.is (ns.map Dat.int) v B) : Py.is ns v B := by
  obtain ⟨p, vs, rfl, h1, h2⟩ := h
  refine ⟨p, vs, rfl, h1, ?_⟩
  clear h1
  generalize hd : ns.map Dat.int = ds at h2
  induction h2 generalizing ns with
  | nil =>
    cases ns with
    | nil => exact .nil
    | cons _ _ => cases hd
  | cons h _ ih =>
    cases ns with
    | nil => cases hd
    | cons n r =>
      rw [List.map_cons] at hd
      injection hd with e1 e2
      subst e1
      exact .cons (int_dat h) (ih e2)
/-! ### isinstance -/
inductive Tn where
  | int | bool | list | tuple
def Tn.name : Tn → String
  | .int => "int" | .bool => "bool" | .list => "list" | .tuple => "tuple"
def Dat.isT : Dat → Tn → Bool
  | .bl _, .int => true
  | .bl _, .bool => true
  | .int _, .int => true
  | .lst _, .list => true
  | .tup _, .tuple => true
  | _, _ => false
theorem dat_kit {K : PySem.W.Frag} {B H : Hp} (e : Ex B H) {d : Dat} {v : V} (h : DatV B d v) (T : Tn) : ∃ t, TyX K H v t ∧ PySem.W.kitOne K t (.type T.name) = some (d.isT T) := by
  have k1 : ∀ T : Tn, kitB "NoneType" T.name = some (Dat.non.isT T) := fun T => by cases T <;> decide +kernel
  have k2 : ∀ T : Tn, kitB "bool" T.name = some ((Dat.bl true).isT T) := fun T => by cases T <;> decide +kernel
  have k3 : ∀ T : Tn, kitB "int" T.name = some ((Dat.int 0).isT T) := fun T => by cases T <;> decide +kernel
  have k4 : ∀ T : Tn, kitB "str" T.name = some ((Dat.str "").isT T) := fun T => by cases T <;> decide +kernel
  have k5 : ∀ T : Tn, kitB "list" T.name = some ((Dat.lst []).isT T) := fun T => by cases T <;> decide +kernel
  have k6 : ∀ T : Tn, kitB "tuple" T.name = some ((Dat.tup []).isT T) := fun T => by cases T <;> decide +kernel
  have k7 : ∀ T : Tn, kitB "dict" T.name = some (Dat.dic.isT T) := fun T => by cases T <;> decide +kernel
  cases h with
  | non => exact ⟨_, .base .non, kit_ty (k1 T)⟩
  | bl b => exact ⟨_, .base (.bl b), kit_ty (by have := k2 T; cases T <;> exact this)⟩
  | int n => exact ⟨_, .base (.int n), kit_ty (by have := k3 T; cases T <;> exact this)⟩
  | str s => exact ⟨_, .base (.str s), kit_ty (by have := k4 T; cases T <;> exact this)⟩
  | lst h _ => exact ⟨_, .base (.lst (e _ _ h)), kit_ty (by have := k5 T; cases T <;> exact this)⟩
  | tup h _ => exact ⟨_, .base (.tup (e _ _ h)), kit_ty (by have := k6 T; cases T <;> exact this)⟩
  | dic h => exact ⟨_, .base (.dK (e _ _ h)), kit_ty (k7 T)⟩
section
variable {K : PySem.W.Frag} {G : Option Addr} {c c1 c2 c3 : Nat} {te ta tb tx : TE} {Γ : Ctx} {α : Type} [Py α]
theorem ty_isi {d : Dat} (T : Tn) (h : Ty G c ta Γ (· = d)) : Ty G (c + (0 + 0)) (tCB (rIsi K) (tCons ta (tCons (tC (.ty T.name)) tNil))) Γ (· = d.isT T) := fun z B σ H en s hz Q q =>
  h z B σ H en s (by omega) _ fun x v z' B' H' ex n hv => by
    subst ex
    obtain ⟨t, h1, h2⟩ := dat_kit (K := K) n.at_.ex hv T
    exact ⟨v, _, t, _, _, rfl, .ty _, h1, h2, q _ _ z' B' H' rfl (n.le (by omega)) rfl⟩
end
end AP
set_option maxHeartbeats 4000000
/-! What the program's judging defs say, as functions of Lean; rules for values of any kind. -/
namespace AP
open PySem PySem.Spec PyProof.Rows L2 Evl
def Dat.whole : Dat → Bool
  | .int _ => true
  | _ => false
theorem Dat.whole_eq (d : Dat) : (d.isT .int && !d.isT .bool) = d.whole := by cases d <;> rfl
def Dat.toI : Dat → Int
  | .int n => n
  | _ => 0
theorem Dat.whole_int {d : Dat} (h : d.whole = true) : d = .int d.toI := by cases d <;> first | rfl | cases h
def Dat.within (lo hi : Int) : Dat → Bool
  | .int n => decide (lo ≤ n) && decide (n ≤ hi)
  | _ => false
theorem Dat.within_eq (lo hi : Int) (d : Dat) : d.within lo hi = (d.whole && (decide (lo ≤ d.toI) && decide (d.toI ≤ hi))) := by cases d <;> rfl
theorem Dat.within_whole {lo hi : Int} {d : Dat} (h : d.within lo hi = true) : d.whole = true := by cases d <;> first | rfl | cases h
theorem Dat.within_int {lo hi : Int} {d : Dat} (h : d.within lo hi = true) : lo ≤ d.toI ∧ d.toI ≤ hi := by
  rw [Dat.within_eq] at h
  simp only [Bool.and_eq_true, decide_eq_true_eq] at h
  exact h.2
def top (w : Int) : Int := 2 ^ w.toNat - 1
/-- a word of the width -/
def Dat.word (w : Int) (d : Dat) : Bool := d.within 0 (top w)
def Dat.small : Dat → Prop
  | .lst ds => ds.length ≤ 30000
  | _ => True
def wordsB (w : Int) : Dat → Bool
  | .lst ds => ds.all (Dat.word w)
  | _ => false
def climbs (ns : List Int) : Bool := (List.range (ns.length - 1)).all fun i => decide (ns.getD i 0 < ns.getD (i + 1) 0)
def placesB (w : Int) : Dat → Bool
  | .lst ds => ds.all (Dat.word w) && (decide (0 < ds.length) && climbs (ds.map Dat.toI))
  | _ => false
def wordsAtB (w : Int) (many : Nat) : Dat → Bool
  | .lst ds => ds.all (Dat.word w) && decide (ds.length = many)
  | _ => false
/-! contracts -/
def nop {ι : Type} : ι → Option Addr → Prop := fun _ _ => True
def cWhole : Con Dat Bool := ⟨fun d => [Py.is d], nop, fun _ => 0, fun d b => b = d.whole⟩
def cBetween : Con (Dat × Int × Int) Bool := ⟨fun i => [Py.is i.1, Py.is i.2.1, Py.is i.2.2], nop, fun _ => 0, fun i b => b = i.1.within i.2.1 i.2.2⟩
def cFitsWidth : Con Dat Bool := ⟨fun d => [Py.is d], nop, fun _ => 0, fun d b => b = d.within 1 64⟩
def wOk (w : Int) : Prop := 1 ≤ w ∧ w ≤ 64
def cFitsWord : Con (Int × Dat) Bool := ⟨fun i => [Py.is i.1, Py.is i.2], fun i _ => wOk i.1, fun _ => 0, fun i b => b = i.2.word i.1⟩
def cAreWords : Con (Int × Dat) Bool := ⟨fun i => [Py.is i.1, Py.is i.2], fun i _ => wOk i.1 ∧ i.2.small, fun _ => 0, fun i b => b = wordsB i.1 i.2⟩
def cClimbs : Con (List Int) Bool := ⟨fun i => [Py.is i], fun i _ => i.length ≤ 30000, fun _ => 0, fun i b => b = climbs i⟩
def cArePlaces : Con (Int × Dat) Bool := ⟨fun i => [Py.is i.1, Py.is i.2], fun i _ => wOk i.1 ∧ i.2.small, fun _ => 0, fun i b => b = placesB i.1 i.2⟩
/-- good places -/
def Places (w : Int) (ps : List Int) : Prop := placesB w (.lst (ps.map Dat.int)) = true ∧ ps.length ≤ 30000
def cNeedWidth : Con Int Unit := ⟨fun w => [Py.is w], fun w _ => wOk w, fun _ => 0, fun _ _ => True⟩
def cNeedPlaces : Con (Int × List Int) Unit := ⟨fun i => [Py.is i.1, Py.is i.2], fun i _ => wOk i.1 ∧ Places i.1 i.2, fun _ => 0, fun _ _ => True⟩
/-! rules -/
section
variable {K : PySem.W.Frag} {G : Option Addr} {c c1 c2 c3 : Nat} {te ta tb tx : TE} {tt tu : TT} {Γ : Ctx} {α β : Type} [Py α] [Py β] {tr : TA} {B B' H : Hp} {v w : V} {i j : Int}
theorem Ty.datInt {n : Int} (h : Ty G c te Γ (· = n)) : Ty G c te Γ (· = Dat.int n) := h.cast fun _ _ => dat_int
theorem Ty.datLst {ds : List Dat} (h : Ty G c te Γ (· = ds)) : Ty G c te Γ (· = Dat.lst ds) := h.cast fun _ _ => dat_lst
theorem Ty.lstDat {ds : List Dat} (h : Ty G c te Γ (· = Dat.lst ds)) : Ty G c te Γ (· = ds) := h.cast fun _ _ => lst_dat
theorem Ty.datInts {ns : List Int} (h : Ty G c te Γ (· = ns)) : Ty G c te Γ (· = ns.map Dat.int) := h.cast fun _ _ => ints_dats
theorem Ty.datStr {b : Str} (h : Ty G c te Γ (· = b)) : Ty G c te Γ (· = Dat.str b) := h.cast fun v B q => by
  cases (show v = .str b from q)
  exact .str b
theorem Ty.datNon (h : Ty G c te Γ (· = ())) : Ty G c te Γ (· = Dat.non) := h.cast fun v B q => by
  cases (show v = .non from q)
  exact .non
theorem Ty.intOf {d : Dat} (h : Ty G c te Γ (· = d)) (hw : d.whole = true) : Ty G c te Γ (· = d.toI) := h.cast fun v B q => by
  rw [Dat.whole_int hw] at q
  exact int_dat q
theorem all_ints : ∀ {ds : List Dat}, (∀ d, d ∈ ds → d.whole = true) → ds = (ds.map Dat.toI).map Dat.int
  | [], _ => rfl
  | d :: r, h => by
    rw [List.map_cons, List.map_cons, ← all_ints fun d hd => h d (List.mem_cons_of_mem _ hd), ← Dat.whole_int (h d List.mem_cons_self)]
theorem words_whole {w : Int} {ds : List Dat} (h : ds.all (Dat.word w) = true) : ∀ d, d ∈ ds → d.whole = true := fun d hd => Dat.within_whole (List.all_eq_true.mp h d hd)
theorem Ty.intsOf {ds : List Dat} (h : Ty G c te Γ (· = Dat.lst ds)) (hw : ∀ d, d ∈ ds → d.whole = true) : Ty G c te Γ (· = ds.map Dat.toI) := h.lstDat.cast fun v B q => by
  rw [all_ints hw] at q
  exact dats_ints q
theorem atI_in {ns : List Int} {i : Int} (h0 : 0 ≤ i) (h1 : i < ns.length) : atI ns i = some (ns.getD i.toNat 0) := by
  unfold atI ixN
  rw [if_pos h0, if_pos h1]
  show ns[i.toNat]? = _
  have lt : i.toNat < ns.length := by omega
  rw [List.getElem?_eq_getElem lt, List.getD_eq_getElem?_getD, List.getElem?_eq_getElem lt] <;> rfl
theorem climbs_eq (ns : List Int) : (((((List.range ((ns.length : Int) - 1).toNat).map fun i : Nat => 1 + (i : Int)).filter fun _ => true).map fun x : Int => decide (ns.getD (x - 1).toNat 0 < ns.getD x.toNat 0)).all id) = climbs ns := by
  rw [List.filter_eq_self.mpr fun _ _ => rfl, List.map_map, List.all_map]
  unfold climbs
  rw [show ((ns.length : Int) - 1).toNat = ns.length - 1 by omega]
  congr 1
  funext i
  show decide (ns.getD (1 + (i : Int) - 1).toNat 0 < ns.getD (1 + (i : Int)).toNat 0) = _
  rw [show (1 + (i : Int) - 1).toNat = i by omega, show (1 + (i : Int)).toNat = i + 1 by omega]
/-- 1 << w -/
theorem ty_shl (h : Ty G c te Γ (· = i)) (h0 : 0 ≤ i ∧ i ≤ 1000) : Ty G (0 + c) (tOp (rI CPow fun a b => .int (a * 2 ^ b.toNat)) (tC (.int 1)) te) Γ (· = (2 : Int) ^ i.toNat) :=
  (ty_I (f := fun a b => a * 2 ^ b.toNat) ty_i h (show CPow 1 i from ⟨h0.1, by omega, by decide⟩)).to (by show (1 : Int) * 2 ^ i.toNat = 2 ^ i.toNat; rw [Int.one_mul])
end
end AP
set_option maxHeartbeats 4000000
/-! Calls of the judging defs. -/
namespace AP
open PySem PySem.Spec PyProof.Rows L2 Evl
section
variable {G : Option Addr} {c0 c1 c2 c3 : Nat} {t0 t1 t2 t3 : TE} {Γ : Ctx}
theorem y_whole {d : Dat} {E : XK} (h0 : Ty G c0 t0 Γ (· = d))  : Ty G ((c0 + 0) + 0) (tCall cWhole.sp [] E (tCons t0 tNil)) Γ (· = d.whole) := ty_call (C := cWhole) d (ta_cons h0 ta_nil) trivial
theorem y_between {d : Dat} {lo : Int} {hi : Int} {E : XK} (h0 : Ty G c0 t0 Γ (· = d)) (h1 : Ty G c1 t1 Γ (· = lo)) (h2 : Ty G c2 t2 Γ (· = hi))  : Ty G ((c0 + (c1 + (c2 + 0))) + 0) (tCall cBetween.sp [] E (tCons t0 (tCons t1 (tCons t2 tNil)))) Γ (· = d.within lo hi) := ty_call (C := cBetween) (d, lo, hi) (ta_cons h0 (ta_cons h1 (ta_cons h2 ta_nil))) trivial
theorem y_fitsWidth {d : Dat} {E : XK} (h0 : Ty G c0 t0 Γ (· = d))  : Ty G ((c0 + 0) + 0) (tCall cFitsWidth.sp [] E (tCons t0 tNil)) Γ (· = d.within 1 64) := ty_call (C := cFitsWidth) d (ta_cons h0 ta_nil) trivial
theorem y_fitsWord {w : Int} {d : Dat} {E : XK} (h0 : Ty G c0 t0 Γ (· = w)) (h1 : Ty G c1 t1 Γ (· = d)) (p : wOk w) : Ty G ((c0 + (c1 + 0)) + 0) (tCall cFitsWord.sp [] E (tCons t0 (tCons t1 tNil))) Γ (· = d.word w) := ty_call (C := cFitsWord) (w, d) (ta_cons h0 (ta_cons h1 ta_nil)) p
theorem y_areWords {w : Int} {d : Dat} {E : XK} (h0 : Ty G c0 t0 Γ (· = w)) (h1 : Ty G c1 t1 Γ (· = d)) (p : wOk w ∧ d.small) : Ty G ((c0 + (c1 + 0)) + 0) (tCall cAreWords.sp [] E (tCons t0 (tCons t1 tNil))) Γ (· = wordsB w d) := ty_call (C := cAreWords) (w, d) (ta_cons h0 (ta_cons h1 ta_nil)) p
theorem y_climbs {ns : List Int} {E : XK} (h0 : Ty G c0 t0 Γ (· = ns)) (p : ns.length ≤ 30000) : Ty G ((c0 + 0) + 0) (tCall cClimbs.sp [] E (tCons t0 tNil)) Γ (· = climbs ns) := ty_call (C := cClimbs) ns (ta_cons h0 ta_nil) p
theorem y_arePlaces {w : Int} {d : Dat} {E : XK} (h0 : Ty G c0 t0 Γ (· = w)) (h1 : Ty G c1 t1 Γ (· = d)) (p : wOk w ∧ d.small) : Ty G ((c0 + (c1 + 0)) + 0) (tCall cArePlaces.sp [] E (tCons t0 (tCons t1 tNil))) Γ (· = placesB w d) := ty_call (C := cArePlaces) (w, d) (ta_cons h0 (ta_cons h1 ta_nil)) p
theorem y_needWidth {w : Int} {E : XK} (h0 : Ty G c0 t0 Γ (· = w)) (p : wOk w) : Ty G ((c0 + 0) + 0) (tCall cNeedWidth.sp [] E (tCons t0 tNil)) Γ (fun _ : Unit => True) := ty_call (C := cNeedWidth) w (ta_cons h0 ta_nil) p
theorem y_needPlaces {w : Int} {ns : List Int} {E : XK} (h0 : Ty G c0 t0 Γ (· = w)) (h1 : Ty G c1 t1 Γ (· = ns)) (p : wOk w ∧ Places w ns) : Ty G ((c0 + (c1 + 0)) + 0) (tCall cNeedPlaces.sp [] E (tCons t0 (tCons t1 tNil))) Γ (fun _ : Unit => True) := ty_call (C := cNeedPlaces) (w, ns) (ta_cons h0 (ta_cons h1 ta_nil)) p
end
end AP
set_option maxHeartbeats 4000000
/-! Draws. -/
namespace AP
open PySem PySem.Spec PyProof.Rows L2 Evl
def cRandom : Con (Addr × Int) Int := ⟨fun i => [Py.is (GenR.mk i.1), Py.is i.2], fun i G => G = some i.1 ∧ 0 < i.2 ∧ i.2.natAbs < 2 ^ 8999, fun _ => 300, fun i n => 0 ≤ n ∧ n < i.2⟩
theorem random_con {P : Program} {w : World} {K : PySem.W.Frag} {mg : Str → Option Value} {base : Heap} {k : Nat} {f : Addr} {fd : FuncData} {ps : List Str}
    (F : FnOk P w K mg base CX0 k f fd ps spRandom) : FnOk P w K mg base CX0 k f fd ps cRandom.sp := F.imp fun vs H Q E h => by
  obtain ⟨⟨g, b⟩, G, z, B, al, ⟨eG, hb, hb'⟩, at0, hz, q⟩ := h
  subst eG
  obtain ⟨v, w, rfl, hv, hw⟩ := al.two
  cases (show v = .ref g from hv)
  cases (show w = .int b from hw)
  obtain ⟨nB, x, y, hg, hx, hy, hy', hz0⟩ := at0.gen g rfl
  have hz' : z + 300 ≤ 2 ^ 50 := hz
  refine ⟨g, b, x, y, z, rfl, ⟨hg, hx, hy, hz0, by omega⟩, hb, hb', fun n x' z' H' n0 n1 hg' oth hzz => ?_⟩
  refine q n (.int n) z' B H' ⟨n0, n1⟩ ⟨⟨fun a o e => ?_, fun g' e => ?_⟩, Ex.refl _, fun _ _ h => .inl h, hzz, by have := hg'.2.2.2.2; show z' ≤ z + 300; omega, fun a o hne h => ?_⟩ rfl
  · rw [oth a (ne_of_none e nB)]
    exact at0.ex a o e
  · cases e
    exact ⟨nB, x', y, hg'.1, hg'.2.1, hy, hy', hg'.2.2.2.1⟩
  · rw [oth a fun e => hne (congrArg some e.symm)]
    exact h
section
variable {K : PySem.W.Frag} {G : Option Addr} {c c0 c1 c2 : Nat} {t0 t1 te ta tb : TE} {Γ : Ctx} {g : Addr} {b : Int} {tr : TA} {α : Type} [Py α]
theorem y_random {E : XK} (h0 : Ty (some g) c0 t0 Γ (· = GenR.mk g)) (h1 : Ty (some g) c1 t1 Γ (· = b)) (p : 0 < b ∧ b.natAbs < 2 ^ 8999) :
    Ty (some g) (c0 + (c1 + 0) + 300) (tCall cRandom.sp [] E (tCons t0 (tCons t1 tNil))) Γ (fun n : Int => 0 ≤ n ∧ n < b) :=
  ty_call (C := cRandom) (g, b) (ta_cons h0 (ta_cons h1 ta_nil)) ⟨rfl, p⟩
theorem small_b {b : Int} (h : 0 < b) (h1 : b ≤ 2 ^ 200) : 0 < b ∧ b.natAbs < 2 ^ 8999 := by
  refine ⟨h, ?_⟩
  have e : ((2 : Int) ^ 200) = ((2 ^ 200 : Nat) : Int) := by norm_cast
  have h2 : b.natAbs ≤ 2 ^ 200 := by omega
  exact Nat.lt_of_le_of_lt h2 (Nat.pow_lt_pow_right (by decide) (by decide))
/-! powers -/
theorem pow_lt {n : Int} {a : Nat} (h : n.natAbs < 2 ^ a) (i : Nat) : (n ^ i).natAbs < 2 ^ (a * i + 1) := by
  rw [Int.natAbs_pow]
  have h1 : n.natAbs ^ i ≤ (2 ^ a) ^ i := Nat.pow_le_pow_left (Nat.le_of_lt h) i
  rw [← Nat.pow_mul] at h1
  exact Nat.lt_of_le_of_lt h1 (Nat.pow_lt_pow_right (by decide) (Nat.lt_succ_self _))
theorem mul_pow {n : Int} (h : n.natAbs < 2 ^ 200) {i : Nat} (hi : i ≤ 1000) : CMulW (n ^ i) n := wide_mul (pow_lt h i) h (by omega) (by decide) (by omega)
theorem two_pow (t : Int) (h : 0 ≤ t) (h1 : t ≤ 200) : (0 : Int) < 2 ^ t.toNat ∧ (2 : Int) ^ t.toNat ≤ 2 ^ 200 := by
  have e : ∀ k : Nat, ((2 : Int) ^ k) = ((2 ^ k : Nat) : Int) := fun k => by norm_cast
  rw [e, e]
  have a := Nat.two_pow_pos t.toNat
  have b : 2 ^ t.toNat ≤ 2 ^ 200 := Nat.pow_le_pow_right (by decide) (by omega)
  omega
end
end AP
set_option maxHeartbeats 4000000
/-! Lists that are not told one by one; pairs; dicts made on the way. -/
namespace AP
open PySem PySem.Spec PyProof.Rows L2 Evl
section
variable {K : PySem.W.Frag} {G : Option Addr} {c c0 c1 c2 c3 : Nat} {te ta tb tx t0 t1 : TE} {tt tu : TT} {Γ : Ctx} {α β : Type} [Py α] [Py β] {tr : TA} {B B' H : Hp} {v w : V} {i j : Int} {σ : L2.St}
/-- name what a slot holds -/
theorem Slo.name {P : α → Prop} {k : Nat} (en : Slo B σ Γ) (h : Γ[k]? = some (some (isA P))) : ∃ x, P x ∧ Slo B σ (Γ.set k (some (Py.is x))) := by
  obtain ⟨v, h1, _, x, h2, h3⟩ := en.all k _ h
  refine ⟨x, h2, ?_⟩
  have e := en.put (i := k) h3
  have lt : k < σ.length := (List.getElem?_eq_some_iff.mp h1).1
  have : σ.set k (some v) = σ := by
    apply List.ext_getElem?
    intro m
    by_cases hm : k = m
    · subst hm
      rw [List.getElem?_set_self lt, h1]
    · rw [List.getElem?_set_ne hm]
  rw [this] at e
  exact e
theorem ty_dnew : Ty G 0 tDNewK Γ (· = Dat.dic) := fun z B σ H en s hz Q q => fun p hp => by
  have n2 := Nx.alloc (o := .dK []) s hp
  exact q _ _ _ _ _ rfl n2 (.dic upd_same)
theorem cutL_len (xs : List α) (lo hi : Option Int) : (cutL xs lo hi).length ≤ xs.length := by
  unfold cutL
  rw [List.length_take, List.length_drop]
  omega
end
/-! xs[::e], e evaluates to -1 -/
def tRevS (K : PySem.W.Frag) (te ts : TE) : TE := fun σ H Q => te σ H fun x H1 => ts σ H1 fun y H2 => ∃ a xs, x = .ref a ∧ y = .int (-1) ∧ SqL K H2 a xs ∧ ∀ p, H2 p = none → Q (.ref p) (upd H2 p (.lst xs.reverse))
theorem ty_revS {K : PySem.W.Frag} {G : Option Addr} {c1 c2 : Nat} {te ts : TE} {Γ : Ctx} {α : Type} [Py α] {xs : List α} (h : Ty G c1 te Γ (· = xs)) (h2 : Ty G c2 ts Γ (· = (-1 : Int))) : Ty G (c1 + c2) (tRevS K te ts) Γ (· = xs.reverse) := fun z B σ H en s hz Q q => by
  refine h z B σ H en s (by omega) _ fun x v z1 B1 H1 ex n1 hv => ?_
  refine h2 z1 B1 σ H1 (en.up n1.up) n1.at_ (by have := n1.hi; omega) _ fun y w z2 B2 H2 ey n2 hw => ?_
  subst ex ey
  obtain ⟨a, us, rfl, e1, e2⟩ := hv
  refine ⟨a, us, rfl, hw, sq_of (n2.at_.ex _ _ (n2.up _ _ e1)), fun p hp => ?_⟩
  obtain ⟨n4, is4⟩ := new_list n2.at_ hp (e2.ex n2.up).rev
  exact q _ _ _ _ _ rfl (((n1.trans s n2).trans s n4).le (by omega)) is4
end AP
set_option maxHeartbeats 4000000
/-! repr of values of any kind; the law's def. -/
namespace AP
open PySem PySem.Spec PyProof.Rows L2 Evl
mutual
def Dat.py : Dat → PyData
  | .non => .none
  | .bl b => .bool b
  | .int n => .int n
  | .str s => .str s
  | .lst ds => .list (pyAll ds)
  | .tup ds => .tuple (pyAll ds)
  | .dic => .dict []
def pyAll : List Dat → List PyData
  | [] => []
  | d :: ds => d.py :: pyAll ds
end
/-- how deep, how heavy a value is whose repr is asked -/
structure Rp (k W : Nat) (d : Dat) : Prop where
  show_ : d.py.showable = true
  nodict : d.py.hasDict = false
  short : d.py.leavesShort 40 = true
  lay : d.py.canLay0 = true
  depth : d.py.depth ≤ k
  wt : d.py.weight ≤ W
theorem Rp.mono {k k' W W' : Nat} {d : Dat} (h : Rp k W d) (a : k ≤ k') (b : W ≤ W') : Rp k' W' d := ⟨h.show_, h.nodict, h.short, h.lay, Nat.le_trans h.depth a, Nat.le_trans h.wt b⟩
mutual
theorem DatV.dp {K : PySem.W.Frag} {B H : Hp} (e : Ex B H) : ∀ {d : Dat} {v : V}, DatV B d v → d.py.hasDict = false → Dp K H v d.py
  | _, _, .non, _ => .non
  | _, _, .bl b, _ => .bl b
  | _, _, .int n, _ => .int n
  | _, _, .str s, _ => .str s
  | _, _, .lst h r, k => .lst (sq_of (e _ _ h)) (DatVs.dp e r k)
  | _, _, .tup h r, k => .tup (st_of (e _ _ h)) (DatVs.dp e r k)
  | _, _, .dic _, k => by cases k
theorem DatVs.dp {K : PySem.W.Frag} {B H : Hp} (e : Ex B H) : ∀ {d : List Dat} {v : List V}, DatVs B d v → PyData.hasDictAll (pyAll d) = false → DpAll K H v (pyAll d)
  | _, _, .nil, _ => .nil
  | d :: ds, _, .cons h r, k => by
    have k' : (d.py.hasDict || PyData.hasDictAll (pyAll ds)) = false := k
    rw [Bool.or_eq_false_iff] at k'
    exact .cons (DatV.dp e h k'.1) (DatVs.dp e r k'.2)
end
/-! a def that is called where no repr is under way -/
structure FoG (P : Program) (w : World) (K : PySem.W.Frag) (mg : Str → Option Value) (base : Heap) (x : Str) (k : Nat) (ps : List Str) (sp : Sp) : Prop where
  ex : ∃ (f : Addr) (fd : FuncData), mg x = some (.ref f) ∧ PySem.W.keepIn K (.ref f) = true ∧ Binds K fd ps [] ∧ FnG P w K mg base CX0 k f fd ps sp
theorem FoG.mk' {P : Program} {w : World} {K : PySem.W.Frag} {mg : Str → Option Value} {base : Heap} {x qual : Str} {st : Stmt} {f : Addr} {fd : FuncData} {ps : List Str} {k : Nat} {sp : Sp} (F : Df K x qual st [] f fd) (m : mg x = some (.ref f)) (G : FnG P w K mg base CX0 k f fd ps sp)
    (b : ∀ (kV doc pm : Value) (an : Option Addr) (cdv ct : Value) (us : List Value), us.length = ps.length → bindArgs (PySem.W.fnOf x qual (defArgs st) (defBody st) (defScope st) .none kV doc pm an cdv ct) ⟨us, []⟩ = pure (ps.zip us)) :
    FoG P w K mg base x k ps sp := ⟨f, fd, m, F.kp, FunD.bindsN F b, G⟩
section
variable {X : Cx} {k : Nat} {ps : List Str} {sp : Sp} {x : Str} {p pos : Pos} {e : Expr} {es : List Expr} {t : TA}
theorem pe_fog (F : FoG X.prog X.w X.K X.mg X.base x k ps sp) (ng : X.A.guards = some []) (hr : Room k X.A) (hg : Gl X x) (ha : PA X (e :: es) t) (hdb : (x == ("__debug__" : Str)) = false := by decide)
    (he : starEach (e :: es) X.env = (false, eval e X.env) :: starEach es X.env := by rfl)
    (hpl : (backTo pos (starEach es X.env)).any (·.1) = false := by rfl) :
    PE X (.Call (.Name x p) (e :: es) [] pos) (tCall sp [] (fun _ _ _ => False) t) := by
  obtain ⟨f, fd, m, kp, b, G⟩ := F.ex
  exact pe_callG G ng hr hg m kp b .nil pass0 ha hdb he hpl
end
/-- the law's script in a slot -/
def ScP (K : PySem.W.Frag) (a : Addr) (ns : List Int) : VP := fun v B => v = .ref a ∧ SqL K B a (ns.map V.int)
theorem ScP.stays {K : PySem.W.Frag} {a : Addr} {ns : List Int} : Stays (ScP K a ns) := fun _ _ _ e h => ⟨h.1, ex_l e h.2⟩
end AP
set_option maxHeartbeats 4000000
/-! list(range(..)); the law's promise. -/
namespace AP
open PySem PySem.Spec PyProof.Rows L2 Evl
/-- the law's def: True, whatever the script -/
def spLaw (K : PySem.W.Frag) : Sp := fun vs H Q _ => ∃ (a : Addr) (ns : List Int), vs = [.ref a] ∧ SqL K H a (ns.map V.int) ∧ ∀ H', Q (.bl true) H'
theorem at_none {H : Hp} {z : Int} : At none z H H := ⟨Ex.refl H, fun _ e => by cases e⟩
theorem slo_law {K : PySem.W.Frag} {H : Hp} {a : Addr} {ns : List Int} {N : List Str} (h : SqL K H a (ns.map V.int)) : Slo H (L2.start N [.ref a]) (ctx0 N.length [ScP K a ns]) := Slo.start (.cons ScP.stays ⟨rfl, h⟩ .nil)
end AP
set_option maxHeartbeats 4000000
/-! Dicts of ints by ints: made, walked, asked for the least value. -/
namespace AP
open PySem PySem.Spec PyProof.Rows L2 Evl
structure DictI where
  kvs : List (Int × Int)
def kvI (p : Int × Int) : Key × V := (Sum.inl p.1, V.int p.2)
instance : Py DictI := ⟨fun d v B => ∃ p, v = .ref p ∧ B p = some (.dK (d.kvs.map kvI)), fun _ _ _ _ e ⟨p, h1, h2⟩ => ⟨p, h1, e _ _ h2⟩⟩
section
variable {K : PySem.W.Frag} {G : Option Addr} {c c1 c2 ct ck cv : Nat} {te td tk tv : TE} {tt : TT} {Γ : AP.Ctx} {α : Type} [Py α] {B B' H : Hp}
/-- while d: .. -/
theorem tt_dict {d : DictI} (h : Ty G c td Γ (· = d)) : TyT G c (fun σ H Q => td σ H fun x H' => ∃ k, TruV K x H' k ∧ Q k H') Γ (· = !d.kvs.isEmpty) := fun z B σ H en s hz Q q =>
  h z B σ H en s hz _ fun x v z' B' H' ex n hv => by
    subst ex
    obtain ⟨p, rfl, h1⟩ := hv
    refine ⟨!x.kvs.isEmpty, .inr (.inr ⟨_, n.at_.ex _ _ h1, ?_⟩), q _ z' B' H' rfl n⟩
    cases x.kvs <;> rfl
theorem ty_minVals {d : DictI} (h : Ty G c td Γ (· = d)) (h0 : d.kvs ≠ []) : Ty G c (tMinVals td) Γ (fun m => m ∈ d.kvs.map (·.2) ∧ ∀ y ∈ d.kvs.map (·.2), m ≤ y) := fun z B σ H en s hz Q q =>
  h z B σ H en s hz _ fun x v z' B' H' ex n hv => by
    subst ex
    obtain ⟨p, rfl, h1⟩ := hv
    exact ⟨p, _, x.kvs.map (·.2), rfl, n.at_.ex _ _ h1, by rw [List.map_map, List.map_map]; rfl, fun e => h0 (List.map_eq_nil_iff.mp e), fun m hm hle => q m _ z' B' H' ⟨hm, hle⟩ n rfl⟩
/-! a dict that is locked while it is walked -/
def FrzP (d : Addr) (o : Obj) (D : DictI) : VP := fun v B => v = .ref d ∧ B d = some (.frz o (.dK (D.kvs.map kvI)))
theorem FrzP.stays {d : Addr} {o : Obj} {D : DictI} : Stays (FrzP d o D) := fun _ _ _ e h => ⟨h.1, e _ _ h.2⟩
/-- a thing told whatever the heap -/
def Flat (P : VP) : Prop := ∀ v B B', P v B → P v B'
theorem flat_int (n : Int) : Flat (Py.is n) := fun _ _ _ h => h
theorem ti_items {d : Addr} {o : Obj} {D : DictI} {i j k : Nat} (h : Γ[i]? = some (some (FrzP d o D))) :
    TyI G 0 (iItems (tVar i)) (gTup K 2 (gCons (gName j) (gCons (gName k) gNil))) Γ [j, k] (· = D.kvs.length) (fun t Γ => (Γ.set j (some (itm (D.kvs.map (·.1)) t))).set k (some (itm (D.kvs.map (·.2)) t))) := fun z B σ H en s hz R r => by
  obtain ⟨v, e1, _, rfl, hd⟩ := en.all i _ h
  refine ⟨_, e1, d, o, _, rfl, s.ex _ _ hd, r _ _ z B H rfl (.refl s) (src_two itm_st itm_st (fun H' e => ⟨e _ _ hd, by rw [List.length_map]; exact Nat.le_refl _⟩) (fun t ht H' e => ⟨e _ _ hd, by rw [List.length_map]; exact ht⟩) fun t ht x H1 H2 e y => ?_)⟩
  obtain ⟨T, key, val, g1, g2, g3, g4⟩ := y
  rw [List.getElem?_map, List.getElem?_eq_getElem ht] at g1
  have g1 : kvI D.kvs[t] = (key, val) := Option.some.inj g1
  injection g1 with a b
  subst a b
  exact ⟨T, _, _, g2, g3, g4, ⟨_, by rw [List.getElem?_map, List.getElem?_eq_getElem ht] <;> rfl, rfl⟩, ⟨_, by rw [List.getElem?_map, List.getElem?_eq_getElem ht] <;> rfl, rfl⟩⟩
/-- under the lock only what is flat is still told -/
theorem ty_lock {D : DictI} {i : Nat} {Γf : AP.Ctx} {A : α → Prop} (fl : ∀ (x : α) (v : V) (B : Hp) (d : Addr) (o : Obj) (u w : HO), B d = some (.frz o u) → Py.is x v B → Py.is x v (upd B d w))
    (hi : Γ[i]? = some (some (Py.is D))) (len : Γf.length = Γ.length) (sub : ∀ (j : Nat) (P : VP), Γf[j]? = some (some P) → Γ[j]? = some (some P) ∧ Flat P)
    (h : ∀ d o, Ty G c te (Γf.set i (some (FrzP d o D))) A) : Ty G c (tLockE te) Γ A := fun z B σ H en s hz Q q => by
  obtain ⟨v, e1, _, d, ev, hd⟩ := en.all i _ hi
  subst ev
  have hH := s.ex _ _ hd
  have ng : ∀ g, G = some g → g ≠ d := fun g hg e => by
    obtain ⟨_, x, y, q1, _⟩ := s.gen g hg
    rw [e, hH] at q1
    cases q1
  refine ⟨d, _, hH, trivial, fun od => ?_⟩
  have en1 : Slo (upd B d (.frz od (.dK (D.kvs.map kvI)))) σ (Γf.set i (some (FrzP d od D))) := by
    refine ⟨by rw [List.length_set, len]; exact en.len, fun j P hj => ?_⟩
    by_cases e : i = j
    · subst e
      by_cases lt : i < Γf.length
      · rw [List.getElem?_set_self lt] at hj
        cases hj
        exact ⟨_, e1, FrzP.stays, rfl, upd_same⟩
      · rw [List.getElem?_eq_none (by rw [List.length_set]; omega)] at hj
        cases hj
    · rw [List.getElem?_set_ne e] at hj
      obtain ⟨h1, h2⟩ := sub j P hj
      obtain ⟨w, h3, h4, h5⟩ := en.all j P h1
      exact ⟨w, h3, h4, h2 _ _ _ h5⟩
  have at1 : At G z (upd B d (.frz od (.dK (D.kvs.map kvI)))) (upd H d (.frz od (.dK (D.kvs.map kvI)))) := by
    refine ⟨fun a u ha => ?_, fun g hg => ?_⟩
    · by_cases e : a = d
      · subst e
        rw [upd_same] at ha ⊢
        exact ha
      · rw [upd_ne e] at ha ⊢
        exact s.ex a u ha
    · obtain ⟨h1, x, y, q1, q2⟩ := s.gen g hg
      exact ⟨by rw [upd_ne (ng g hg)]; exact h1, x, y, by rw [upd_ne (ng g hg)]; exact q1, q2⟩
  refine h d od z _ σ _ en1 at1 hz _ fun x v z' B' H' ax n hv => ?_
  have hB' : B' d = some (.frz od (.dK (D.kvs.map kvI))) := n.up _ _ upd_same
  refine ⟨n.at_.ex _ _ hB', q x v z' (upd B' d (.dK (D.kvs.map kvI))) (upd H' d (.dK (D.kvs.map kvI))) ax ⟨⟨fun a u ha => ?_, fun g hg => ?_⟩, fun a u ha => ?_, fun a u ha => ?_, n.lo, n.hi, fun a u hg ha => ?_⟩ (fl x v B' d od _ _ hB' hv)⟩
  · by_cases e : a = d
    · subst e
      rw [upd_same] at ha ⊢
      exact ha
    · rw [upd_ne e] at ha ⊢
      exact n.at_.ex a u ha
  · obtain ⟨h1, x, y, q1, q2⟩ := n.at_.gen g hg
    exact ⟨by rw [upd_ne (ng g hg)]; exact h1, x, y, by rw [upd_ne (ng g hg)]; exact q1, q2⟩
  · by_cases e : a = d
    · subst e
      rw [hd] at ha
      cases ha
      exact upd_same
    · rw [upd_ne e]
      exact n.up a u (by rw [upd_ne e]; exact ha)
  · by_cases e : a = d
    · subst e
      rw [upd_same] at ha
      cases ha
      exact .inl hd
    · rw [upd_ne e] at ha
      rcases n.new a u ha with h | h
      · rw [upd_ne e] at h
        exact .inl h
      · refine .inr ?_
        unfold NewT at h
        rw [upd_ne e] at h
        exact h
  · by_cases e : a = d
    · subst e
      rw [hH] at ha
      cases ha
      exact upd_same
    · rw [upd_ne e]
      exact n.keep a u hg (by rw [upd_ne e]; exact ha)
theorem fl_ints : ∀ (x : List Int) (v : V) (B : Hp) (d : Addr) (o : Obj) (u w : HO), B d = some (.frz o u) → Py.is x v B → Py.is x v (upd B d w) := fun x v B d o u w hd h => by
  obtain ⟨p, rfl, h1⟩ := Py.ints h
  refine Py.of_ints ?_
  rw [upd_ne fun e => by rw [e, hd] at h1; cases h1]
  exact h1
theorem fl_dict : ∀ (x : DictI) (v : V) (B : Hp) (d : Addr) (o : Obj) (u w : HO), B d = some (.frz o u) → Py.is x v B → Py.is x v (upd B d w) := fun x v B d o u w hd h => by
  obtain ⟨p, rfl, h1⟩ := h
  refine ⟨p, rfl, ?_⟩
  rw [upd_ne fun e => by rw [e, hd] at h1; cases h1]
  exact h1
/-! a dict comprehension over anything: the turns' keys are all unlike -/
theorem put_new {kvs : List (Int × Int)} {k c : Int} (h : k ∉ kvs.map (·.1)) : putK (kvs.map kvI) (Sum.inl k) (V.int c) = (kvs ++ [(k, c)]).map kvI := by
  unfold putK
  rw [if_neg, List.map_append] <;> try rfl
  intro e
  obtain ⟨x, hx, e⟩ := List.any_eq_true.mp e
  obtain ⟨y, hy, rfl⟩ := List.mem_map.mp hx
  have e : (Sum.inl y.1 : Key) = Sum.inl k := of_decide_eq_true e
  injection e with e
  exact h (List.mem_map.mpr ⟨y, hy, e⟩)
def keepsD (p : Nat → Bool) (kf vf : Nat → Int) (m : Nat) : List (Int × Int) := ((List.range m).filter p).map fun i => (kf i, vf i)
theorem keeps_yes {p : Nat → Bool} {kf vf : Nat → Int} {m : Nat} (h : p m = true) : keepsD p kf vf (m + 1) = keepsD p kf vf m ++ [(kf m, vf m)] := by
  unfold keepsD
  rw [List.range_succ, List.filter_append, List.map_append, List.filter_cons, if_pos h] <;> rfl
theorem keeps_no {p : Nat → Bool} {kf vf : Nat → Int} {m : Nat} (h : p m = false) : keepsD p kf vf (m + 1) = keepsD p kf vf m := by
  unfold keepsD
  rw [List.range_succ, List.filter_append, List.map_append, List.filter_cons, if_neg (by rw [h]; decide)]
  show _ ++ [] = _
  rw [List.append_nil]
theorem keeps_len (p : Nat → Bool) (kf vf : Nat → Int) (m : Nat) : (keepsD p kf vf m).length ≤ m := by
  unfold keepsD
  rw [List.length_map]
  exact Nat.le_trans (List.length_filter_le _ _) (by rw [List.length_range]; exact Nat.le_refl _)
theorem ty_dc {wi : TI} {g : TG} {js vs : List Nat} {m : Nat} {F : Nat → AP.Ctx → AP.Ctx} {p : Nat → Bool} {kf vf : Nat → Int} (h : TyI G c wi g Γ js (· = m) F) (hm : m ≤ 40000) (hj : ∀ j ∈ js, j ∈ vs)
    (ht : ∀ i, i < m → TyT G 0 tt (F i (wipeC Γ vs)) (· = p i)) (hk : ∀ i, i < m → p i = true → Ty G 0 tk (F i (wipeC Γ vs)) (· = kf i)) (hv : ∀ i, i < m → p i = true → Ty G 0 tv (F i (wipeC Γ vs)) (· = vf i))
    (nd : ∀ i, i < m → p i = true → kf i ∉ (keepsD p kf vf i).map (·.1)) :
    Ty G c (tDc wi g tt tk tv vs) Γ (· = DictI.mk (keepsD p kf vf m)) := fun z B σ H en s hz Q q => by
  refine h z B σ H en s hz _ fun J m' z1 B1 H1 em n1 src => fun D hD => ?_
  subst em
  have nDH : H D = none := n1.gone s hD
  have gD : G ≠ some D := fun hg => by
    obtain ⟨_, _, _, q1, _⟩ := s.gen D hg
    rw [q1] at nDH
    cases nDH
  have nB1 : B1 D = none := by
    cases e : B1 D with
    | none => rfl
    | some o => rw [n1.at_.ex _ _ e] at hD; cases hD
  refine ⟨fun i k H' => k + i = m' ∧ ∃ z' B', H' D = some (.dK ((keepsD p kf vf i).map kvI)) ∧ B' D = none ∧ Ex B1 B' ∧ Nx G c z B H z' B' H', ⟨m', by omega, z1, B1, upd_same, nB1, Ex.refl _, (n1.trans s (Nx.more n1.at_ (Ex.new hD))).le (by omega)⟩, ?_⟩
  rintro i k H2 ⟨e, z2, B2, hD2, nD, x2, n2⟩
  rcases Nat.lt_or_ge i m' with lt | ge
  · refine .inr ⟨src.go i lt H2 (x2.trans n2.at_.ex), fun H' => ∃ z' B', H' D = some (.dK ((keepsD p kf vf (i + 1)).map kvI)) ∧ B' D = none ∧ Ex B1 B' ∧ Nx G c z B H z' B' H', fun H' p => ⟨k - 1, by omega, by omega, p⟩, fun x H3 y => ?_⟩
    obtain ⟨e3, fin⟩ := src.yld i lt x H2 H3 (x2.trans n2.at_.ex) y
    have enB : Slo B2 (L2.wipe σ vs) (wipeC Γ vs) := (en.up n2.up).wipe vs
    refine fin (L2.wipe σ vs) (wipeC Γ vs) B2 enB x2 n2.at_.ex _ fun σ' en3 hw => ⟨?_, ?_⟩
    · have id2 : ∀ (us : List Nat) (τ : L2.St), L2.wipe (L2.wipe τ us) us = L2.wipe τ us := by
        intro us
        induction us with
        | nil => intro τ; rfl
        | cons u us ih =>
          intro τ
          show (L2.wipe ((L2.wipe τ us).set u none) us).set u none = (L2.wipe τ us).set u none
          by_cases hu : u ∈ us
          · rw [wipe_set _ u _ us hu, ih]
          · have com : ∀ (ws : List Nat) (τ : L2.St), (L2.wipe (τ.set u none) ws).set u none = (L2.wipe τ ws).set u none := by
              intro ws
              induction ws with
              | nil => intro τ; show (τ.set u none).set u none = _; rw [List.set_set]; rfl
              | cons w ws ih2 =>
                intro τ
                show ((L2.wipe (τ.set u none) ws).set w none).set u none = ((L2.wipe τ ws).set w none).set u none
                by_cases k : w = u
                · subst k
                  rw [List.set_set, List.set_set]
                  exact ih2 τ
                · rw [List.set_comm _ _ k, List.set_comm _ _ k, ih2]
            rw [com us, ih]
      rw [hw vs hj, id2]
    have n3 : Nx G c z B H z2 B2 H3 := (n2.trans s (Nx.more n2.at_ e3)).le (by omega)
    have keepD : ∀ {c' : Nat} {za zb : Int} {Ba Bb Ha Hb : Hp} {kvs : List (Key × V)}, Nx G c' za Ba Ha zb Bb Hb → Ha D = some (.dK kvs) → Ba D = none → Hb D = some (.dK kvs) ∧ Bb D = none := fun {c' za zb Ba Bb Ha Hb kvs} nx hd hb => by
      refine ⟨nx.keep D _ gD hd, ?_⟩
      cases e : Bb D with
      | none => rfl
      | some o =>
        rcases nx.new D o e with h | h
        · rw [hb] at h; cases h
        · exact (h.no hd).elim
    refine ht i lt z2 B2 σ' H3 en3 n3.at_ (by have := n3.hi; omega) _ fun b z4 B4 H4 tb n4 => ?_
    subst tb
    obtain ⟨hD4, nD4⟩ := keepD n4 (e3 D _ hD2) nD
    cases hp : p i with
    | false =>
      show ∃ z' B', _
      refine ⟨z4, B4, ?_, nD4, x2.trans n4.up, (n3.trans s n4).le (by omega)⟩
      rw [keeps_no hp]
      exact hD4
    | true =>
      show tk σ' H4 fun y H5 => tv σ' H5 _
      refine hk i lt hp z4 B4 σ' H4 (en3.up n4.up) n4.at_ (by have := n3.hi; have := n4.hi; omega) _ fun y v z5 B5 H5 ay n5 hv5 => ?_
      obtain ⟨hD5, nD5⟩ := keepD n5 hD4 nD4
      refine hv i lt hp z5 B5 σ' H5 ((en3.up n4.up).up n5.up) n5.at_ (by have := n3.hi; have := n4.hi; have := n5.hi; omega) _ fun y' v' z6 B6 H6 ay' n6 hv6 => ?_
      obtain ⟨hD6, nD6⟩ := keepD n6 hD5 nD5
      cases (show v = .int y from hv5)
      cases (show v' = .int y' from hv6)
      subst ay ay'
      have small : ((keepsD p kf vf i).map kvI).length < sizeLine := by
        have := keeps_len p kf vf i
        exact sz_lt (by rw [List.length_map]; omega)
      refine ⟨_, Sum.inl (kf i), rfl, hD6, small, z6, B6, ?_, nD6, ((x2.trans n4.up).trans n5.up).trans n6.up, ?_⟩
      · rw [put_new (nd i lt hp), ← keeps_yes hp]
        exact upd_same
      · have nn := (((n3.trans s n4).trans s n5).trans s n6).le (c2 := c) (by omega)
        refine ⟨⟨fun a u ha => ?_, fun g' hg => ?_⟩, nn.up, nn.new, nn.lo, nn.hi, fun a u hg ha => ?_⟩
        · rw [upd_ne (ne_of_none ha nD6)]
          exact nn.at_.ex a u ha
        · obtain ⟨q1, x, y, q2, q3⟩ := nn.at_.gen g' hg
          exact ⟨q1, x, y, by rw [upd_ne (fun z => gD (by rw [hg, z]))]; exact q2, q3⟩
        · rw [upd_ne (ne_of_none ha nDH)]
          exact nn.keep a u hg ha
  · have eim : i = m' := by omega
    subst eim
    refine .inl ⟨src.stop H2 (x2.trans n2.at_.ex), ?_⟩
    refine q _ (.ref D) z2 (upd B2 D (.dK ((keepsD p kf vf i).map kvI))) H2 rfl ⟨⟨fun a u ha => ?_, fun g' hg => ?_⟩, n2.up.trans (Ex.new nD), fun a u ha => ?_, n2.lo, n2.hi, n2.keep⟩ ⟨D, rfl, upd_same⟩
    · by_cases e : a = D
      · subst e
        rw [upd_same] at ha
        rw [hD2, ha]
      · rw [upd_ne e] at ha
        exact n2.at_.ex a u ha
    · obtain ⟨q1, q2⟩ := n2.at_.gen g' hg
      exact ⟨by rw [upd_ne (fun z => gD (by rw [hg, z]))]; exact q1, q2⟩
    · by_cases e : a = D
      · subst e
        exact .inr (.inl nDH)
      · rw [upd_ne e] at ha
        exact n2.new a u ha
end
end AP
set_option maxHeartbeats 4000000
/-! Lists that grow by append; the twos of a number. -/
namespace AP
open PySem PySem.Spec PyProof.Rows L2 Evl
/-- a list that may grow: nothing is told of what it holds -/
def RefP (l : Addr) : VP := fun v _ => v = .ref l
theorem RefP.stays {l : Addr} : Stays (RefP l) := fun _ _ _ _ h => h
section
variable {K : PySem.W.Frag} {G : Option Addr} {c c0 c1 c2 : Nat} {te ta tb : TE} {Γ : AP.Ctx} {α : Type} [Py α] {A : α → Prop} {B B' H B0 H0 : Hp} {v w : V} {σ : L2.St} {z z0 : Int} {D : Ends} {tz : TS}
theorem Slo.renew (en : Slo B σ Γ) {k : Nat} {l : Addr} {P : VP} (h : Γ[k]? = some (some (RefP l))) (st : Stays P) (p : P (.ref l) B) : Slo B σ (Γ.set k (some P)) := by
  obtain ⟨v, h1, _, h2⟩ := en.all k _ h
  cases (show v = .ref l from h2)
  have e := en.set (i := k) st p
  have lt : k < σ.length := (List.getElem?_eq_some_iff.mp h1).1
  have : σ.set k (some (.ref l)) = σ := by
    apply List.ext_getElem?
    intro m
    by_cases hm : k = m
    · subst hm
      rw [List.getElem?_set_self lt, h1]
    · rw [List.getElem?_set_ne hm]
  rw [this] at e
  exact e
theorem q_newS (s0 : At G z0 B0 H0) (n : Nx G c0 z0 B0 H0 z B H) (en : Slo B σ Γ) {i : Nat}
    (k : ∀ l σ', H l = none → Nx G c0 z0 B0 H0 z B (upd H l (.lst [])) → Slo B σ' (Γ.set i (some (RefP l))) → B l = none → H0 l = none → tz D σ' (upd H l (.lst []))) : tSeq (tAsg (tLst tNil) (gName i)) tz D σ H := by
  refine ⟨by show 0 ≤ sizeLine; exact Nat.zero_le _, fun l hl => ?_⟩
  refine k l _ hl ((n.trans s0 (Nx.more n.at_ (Ex.new hl))).le (by omega)) (en.set RefP.stays rfl) ?_ (n.gone s0 hl)
  cases e : B l with
  | none => rfl
  | some o => rw [n.at_.ex _ _ e] at hl; cases hl
theorem q_appS (s0 : At G z0 B0 H0) (n : Nx G c0 z0 B0 H0 z B H) (en : Slo B σ Γ) {k : Nat} {l : Addr} {us : List V} (hk : Γ[k]? = some (some (RefP l))) (hl : H l = some (.lst us)) (nl : B l = none) (n0 : H0 l = none) (small : us.length < 100000)
    (h : Ty G c te Γ A) (hz : z0 + (c0 + c) ≤ 2 ^ 50)
    (kk : ∀ x v z' B' H', A x → Py.is x v B' → Ex B B' → Nx G (c0 + c) z0 B0 H0 z' B' H' → Slo B' σ Γ → H' l = some (.lst (us ++ [v])) → B' l = none → (∀ a o, G ≠ some a → a ≠ l → H a = some o → H' a = some o) → (∀ a o, B' a = some o → B a = some o ∨ NewT H a o) → tz D σ H') :
    tSeq (tDrop (tBM K "list" rAppend (tVar k) (tCons te tNil))) tz D σ H := by
  obtain ⟨u, e1, _, eu⟩ := en.all k _ hk
  cases (show u = .ref l from eu)
  have gl : G ≠ some l := fun hg => by
    obtain ⟨_, _, _, q1, _⟩ := s0.gen l hg
    rw [q1] at n0
    cases n0
  refine ⟨.ref l, e1, Or.inl ⟨rfl, us, sq_of hl⟩, ?_⟩
  refine h z B σ H en n.at_ (by have := n.hi; omega) _ fun x v z1 B1 H1 ax n1 hv => ?_
  have hl1 := n1.keep l _ gl hl
  have nl1 : B1 l = none := by
    cases e : B1 l with
    | none => rfl
    | some o =>
      rcases n1.new l o e with h | h
      · rw [nl] at h; cases h
      · exact (h.no hl).elim
  have nn := n.trans s0 n1
  refine ⟨l, us, v, rfl, rfl, hl1, sz_lt small, ?_⟩
  refine kk x v z1 B1 _ ax hv n1.up ⟨⟨fun a o ha => ?_, fun g hg => ?_⟩, nn.up, nn.new, nn.lo, nn.hi, fun a o hg ha => ?_⟩ (en.up n1.up) upd_same nl1 (fun a o hg hne ha => ?_) n1.new
  · rw [upd_ne (ne_of_none ha nl1)]
    exact nn.at_.ex a o ha
  · obtain ⟨q1, x, y, q2, q3⟩ := nn.at_.gen g hg
    exact ⟨q1, x, y, by rw [upd_ne (fun z => gl (by rw [hg, z]))]; exact q2, q3⟩
  · rw [upd_ne (ne_of_none ha n0)]
    exact nn.keep a o hg ha
  · rw [upd_ne hne]
    exact n1.keep a o hg ha
theorem Nx.freeze {c : Nat} {l : Addr} {o : HO} (s0 : At G z0 B0 H0) (n : Nx G c z0 B0 H0 z B H) (hl : H l = some o) (nl : B l = none) (n0 : H0 l = none) : Nx G c z0 B0 H0 z (upd B l o) H ∧ Ex B (upd B l o) := by
  have gl : G ≠ some l := fun hg => by
    obtain ⟨_, _, _, q1, _⟩ := s0.gen l hg
    rw [q1] at n0
    cases n0
  refine ⟨⟨⟨fun a u ha => ?_, fun g hg => ?_⟩, n.up.trans (Ex.new nl), fun a u ha => ?_, n.lo, n.hi, n.keep⟩, Ex.new nl⟩
  · by_cases e : a = l
    · subst e
      rw [upd_same] at ha
      rw [hl, ha]
    · rw [upd_ne e] at ha
      exact n.at_.ex a u ha
  · obtain ⟨q1, q2⟩ := n.at_.gen g hg
    exact ⟨by rw [upd_ne (fun z => gl (by rw [hg, z]))]; exact q1, q2⟩
  · by_cases e : a = l
    · subst e
      exact .inr (.inl n0)
    · rw [upd_ne e] at ha
      exact n.new a u ha
end
/-! ### the twos of a number -/
def twF : Nat → Nat → Nat
  | 0, _ => 0
  | f + 1, n => if n ≠ 0 ∧ n % 2 = 0 then twF f (n / 2) + 1 else 0
def twosN (n : Nat) : Nat := twF (n.log2 + 1) n
theorem twosN_step (n : Nat) : twosN n = if n ≠ 0 ∧ n % 2 = 0 then twosN (n / 2) + 1 else 0 := by
  unfold twosN
  rw [twF]
  by_cases h : n ≠ 0 ∧ n % 2 = 0
  · rw [if_pos h, if_pos h]
    have e : n.log2 = (n / 2).log2 + 1 := by
      have h2 : n ≥ 2 := by omega
      rw [Nat.log2_def, if_pos h2]
    rw [e]
  · rw [if_neg h, if_neg h]
theorem twosN_even {n : Nat} (h0 : n ≠ 0) (h : n % 2 = 0) : twosN n = twosN (n / 2) + 1 := by
  rw [twosN_step, if_pos ⟨h0, h⟩]
theorem twosN_odd {n : Nat} (h : n % 2 = 1) : twosN n = 0 := by
  rw [twosN_step, if_neg fun q => by omega]
theorem twosN_zero : twosN 0 = 0 := by rw [twosN_step, if_neg fun q => q.1 rfl]
def twos (n : Int) : Int := (twosN n.natAbs : Nat)
theorem twos_neg (n : Int) : twos (-n) = twos n := by unfold twos; rw [Int.natAbs_neg]
theorem twos_odd {n : Int} (h : n % 2 = 1) : twos n = 0 := by
  unfold twos
  rw [twosN_odd (by omega)] <;> rfl
theorem twos_even {n : Int} (h0 : n ≠ 0) (h : n % 2 = 0) : twos n = twos (n / 2) + 1 := by
  unfold twos
  rw [twosN_even (by omega) (by omega), show (n / 2).natAbs = n.natAbs / 2 by omega]
  omega
theorem twos_nonneg (n : Int) : 0 ≤ twos n := Int.natCast_nonneg _
theorem low_bit (n : Nat) : n ≠ 0 → n - (n &&& (n - 1)) = 2 ^ twosN n := by
  induction n using Nat.strongRecOn with
  | ind n ih =>
    intro h0
    have d1 : (n &&& (n - 1)) / 2 = n / 2 &&& (n - 1) / 2 := Nat.and_div_two ..
    have m1 : (n &&& (n - 1)) % 2 = (n % 2) &&& ((n - 1) % 2) := by
      rw [← Nat.and_one_is_mod, ← Nat.and_one_is_mod, ← Nat.and_one_is_mod]
      apply Nat.eq_of_testBit_eq
      intro i
      simp only [Nat.testBit_and]
      cases Nat.testBit n i <;> cases Nat.testBit (n - 1) i <;> cases Nat.testBit 1 i <;> rfl
    rcases Nat.mod_two_eq_zero_or_one n with e | e
    · have e2 : (n - 1) % 2 = 1 := by omega
      rw [e, e2] at m1
      have m1 : (n &&& (n - 1)) % 2 = 0 := m1
      have h3 : (n - 1) / 2 = n / 2 - 1 := by omega
      rw [h3] at d1
      have := ih (n / 2) (by omega) (by omega)
      have le : (n / 2 &&& (n / 2 - 1)) ≤ n / 2 := Nat.and_le_left
      rw [twosN_even h0 e, Nat.pow_succ, ← this]
      omega
    · have e2 : (n - 1) % 2 = 0 := by omega
      rw [e, e2] at m1
      have m1 : (n &&& (n - 1)) % 2 = 0 := m1
      have h3 : (n - 1) / 2 = n / 2 := by omega
      rw [h3, Nat.and_self] at d1
      rw [twosN_odd e]
      show _ = 1
      omega
theorem twos_bits {n : Int} (h : n ≠ 0) : ((Builtin.Int.intBits (Builtin.bitAnd n (-n)) : Nat) : Int) - 1 = twos n := by
  have key : ∀ m : Int, 0 < m → Builtin.bitAnd m (-m) = ((2 ^ twosN m.natAbs : Nat) : Int) := fun m hm => by
    rw [bitAnd_pn (by omega) (by omega)]
    have e : (Builtin.bitNot (-m)).toNat = m.natAbs - 1 := by
      show (-(-m) - 1).toNat = _
      omega
    have := low_bit m.natAbs (by omega)
    have le : (m.natAbs &&& (m.natAbs - 1)) ≤ m.natAbs := Nat.and_le_left
    rw [e, show m.toNat = m.natAbs by omega]
    omega
  have both : Builtin.bitAnd n (-n) = ((2 ^ twosN n.natAbs : Nat) : Int) := by
    rcases Int.lt_or_gt_of_ne h with lt | gt
    · rw [bitAnd_comm]
      have := key (-n) (by omega)
      rw [Int.neg_neg, Int.natAbs_neg] at this
      exact this
    · exact key n gt
  rw [both]
  unfold Builtin.Int.intBits twos
  have pos := Nat.two_pow_pos (twosN n.natAbs)
  have ne : ((2 ^ twosN n.natAbs : Nat) : Int) ≠ 0 := fun e => by
    have := Int.ofNat.inj e
    omega
  rw [if_neg (by rw [beq_iff_eq]; exact ne), Int.natAbs_natCast, Nat.log2_two_pow]
  omega
end AP
set_option maxHeartbeats 4000000
/-! Good orders: what the program's loop does, as a function of Lean. -/
namespace AP
open PySem PySem.Spec PyProof.Rows L2 Evl
abbrev KC := List (Int × Int)
/-- the first of the least -/
def pickMin : KC → Option (Int × Int)
  | [] => none
  | x :: r => match pickMin r with
    | none => some x
    | some y => if x.2 ≤ y.2 then some x else some y
def behind (kvs : KC) (t : Int) : KC := (kvs.filter fun p => decide (p.1 ≠ t)).map fun p => (p.1, p.2 + twos (p.1 - t))
def orun : Nat → KC → KC
  | 0, _ => []
  | n + 1, kvs => match pickMin kvs with
    | none => []
    | some x => x :: orun n (behind kvs x.1)
def run0 (ps : List Int) : KC := orun ps.length (ps.map fun p => (p, 0))
def orderOf (ps : List Int) : List Int := (run0 ps).map (·.1)
def numbersOf (ps : List Int) : List Int := (run0 ps).map (·.2)
theorem pick_some : ∀ {kvs : KC}, kvs ≠ [] → ∃ x, pickMin kvs = some x ∧ x ∈ kvs ∧ (∀ y ∈ kvs, x.2 ≤ y.2) ∧ ((kvs.filter fun p => decide (p.2 = x.2)).map (·.1))[0]? = some x.1
  | [], h => absurd rfl h
  | [x], _ => ⟨x, rfl, by simp, by simp, by simp⟩
  | x :: z :: r, _ => by
    obtain ⟨y, h1, h2, h3, h4⟩ := pick_some (kvs := z :: r) (by simp)
    by_cases h : x.2 ≤ y.2
    · refine ⟨x, ?_, by simp, fun w hw => ?_, ?_⟩
      · show (match pickMin (z :: r) with | none => some x | some y => if x.2 ≤ y.2 then some x else some y) = some x
        rw [h1]
        show (if x.2 ≤ y.2 then some x else some y) = some x
        rw [if_pos h]
      · rcases List.mem_cons.mp hw with rfl | hw
        · exact Int.le_refl _
        · exact Int.le_trans h (h3 w hw)
      · rw [List.filter_cons, if_pos (by simp)]
        rfl
    · refine ⟨y, ?_, List.mem_cons_of_mem _ h2, fun w hw => ?_, ?_⟩
      · show (match pickMin (z :: r) with | none => some x | some y => if x.2 ≤ y.2 then some x else some y) = some y
        rw [h1]
        show (if x.2 ≤ y.2 then some x else some y) = some y
        rw [if_neg h]
      · rcases List.mem_cons.mp hw with rfl | hw
        · omega
        · exact h3 w hw
      · rw [List.filter_cons, if_neg (by simp; omega)]
        exact h4
theorem behind_keys (kvs : KC) (t : Int) : (behind kvs t).map (·.1) = (kvs.map (·.1)).filter fun k => decide (k ≠ t) := by
  unfold behind
  rw [List.map_map, List.filter_map]
  rfl
theorem filter_one {t : Int} : ∀ {ks : List Int}, ks.Nodup → t ∈ ks → (ks.filter fun k => decide (k ≠ t)).length + 1 = ks.length
  | [], _, h => by cases h
  | k :: ks, nd, h => by
    have nd' := List.nodup_cons.mp nd
    by_cases e : k = t
    · subst e
      rw [List.filter_cons, if_neg (by simp), List.filter_eq_self.mpr fun x hx => by simp; exact fun e => nd'.1 (e ▸ hx)]
      rfl
    · rw [List.filter_cons, if_pos (by simp; exact e), List.length_cons, List.length_cons, filter_one nd'.2 (by
        rcases List.mem_cons.mp h with h | h
        · exact absurd h.symm e
        · exact h)]
theorem behind_len {kvs : KC} {t : Int} (nd : (kvs.map (·.1)).Nodup) (h : t ∈ kvs.map (·.1)) : (behind kvs t).length + 1 = kvs.length := by
  have := filter_one nd h
  rw [← behind_keys, List.length_map, List.length_map] at this
  exact this
theorem behind_nodup {kvs : KC} {t : Int} (nd : (kvs.map (·.1)).Nodup) : ((behind kvs t).map (·.1)).Nodup := by
  rw [behind_keys]
  exact nd.filter _
theorem orun_cons {kvs : KC} {x : Int × Int} (nd : (kvs.map (·.1)).Nodup) (h : pickMin kvs = some x) (hx : x ∈ kvs) : orun kvs.length kvs = x :: orun (behind kvs x.1).length (behind kvs x.1) := by
  have := behind_len nd (List.mem_map.mpr ⟨x, hx, rfl⟩)
  rw [← this, orun, h]
/-! contracts -/
def cTwosIn : Con Int Int := ⟨fun n => [Py.is n], fun n _ => n ≠ 0, fun _ => 0, fun n t => t = twos n⟩
def cCosts0 : Con (List Int) DictI := ⟨fun ps => [Py.is ps], fun ps _ => ps.Nodup ∧ ps.length ≤ 30000, fun _ => 0, fun ps d => d = ⟨ps.map fun p => (p, 0)⟩⟩
def KcOk (kvs : KC) : Prop := (kvs.map (·.1)).Nodup ∧ kvs.length ≤ 30000
def cBehind : Con (DictI × Int) DictI := ⟨fun i => [Py.is i.1, Py.is i.2], fun i _ => KcOk i.1.kvs, fun _ => 0, fun i d => d = ⟨behind i.1.kvs i.2⟩⟩
theorem keeps_list {xs : List (Int × Int)} {p : Int × Int → Bool} {kf vf : Int × Int → Int} : keepsD (fun i => p (xs.getD i (0, 0))) (fun i => kf (xs.getD i (0, 0))) (fun i => vf (xs.getD i (0, 0))) xs.length = (xs.filter p).map fun x => (kf x, vf x) := by
  have key : ∀ m, m ≤ xs.length → keepsD (fun i => p (xs.getD i (0, 0))) (fun i => kf (xs.getD i (0, 0))) (fun i => vf (xs.getD i (0, 0))) m = ((xs.take m).filter p).map fun x => (kf x, vf x) := by
    intro m
    induction m with
    | zero => intro _; rfl
    | succ m ih =>
      intro hm
      have e : xs.getD m (0, 0) = xs[m] := by rw [List.getD_eq_getElem?_getD, List.getElem?_eq_getElem (by omega)] <;> rfl
      rw [List.take_add_one, List.getElem?_eq_getElem (show m < xs.length by omega), List.filter_append, List.map_append, ← ih (by omega)]
      cases hp : p xs[m] with
      | true =>
        rw [keeps_yes (by rw [e]; exact hp), e]
        show _ = _ ++ List.map _ (List.filter p [xs[m]])
        rw [List.filter_cons, if_pos hp] <;> rfl
      | false =>
        rw [keeps_no (by rw [e]; exact hp)]
        show _ = _ ++ List.map _ (List.filter p [xs[m]])
        rw [List.filter_cons, if_neg (by rw [hp]; decide)]
        show _ = _ ++ []
        rw [List.append_nil]
  have := key xs.length (Nat.le_refl _)
  rw [List.take_length] at this
  exact this
theorem sel_list {xs : KC} {p : Int × Int → Bool} {kf : Int × Int → Int} : ((List.range xs.length).filter fun i => p (xs.getD i (0, 0))).map (fun i => kf (xs.getD i (0, 0))) = (xs.filter p).map kf := by
  have := keeps_list (xs := xs) (p := p) (kf := kf) (vf := fun _ => 0)
  unfold keepsD at this
  have := congrArg (List.map (·.1)) this
  rw [List.map_map, List.map_map] at this
  exact this
/-- unlike keys: no turn's key stands among the earlier ones -/
theorem keeps_nd {xs : KC} {p : Int × Int → Bool} {vf : Int × Int → Int} (nd : (xs.map (·.1)).Nodup) {i : Nat} (hi : i < xs.length) :
    (xs.getD i (0, 0)).1 ∉ (keepsD (fun i => p (xs.getD i (0, 0))) (fun i => (xs.getD i (0, 0)).1) (fun i => vf (xs.getD i (0, 0))) i).map (·.1) := fun h => by
  obtain ⟨x, hx, e⟩ := List.mem_map.mp h
  obtain ⟨j, hj, rfl⟩ := List.mem_map.mp hx
  have hj := List.mem_range.mp (List.mem_filter.mp hj).1
  have e : (xs.getD j (0, 0)).1 = (xs.getD i (0, 0)).1 := e
  have a : ∀ k (hk : k < xs.length), (xs.getD k (0, 0)).1 = (xs.map (·.1))[k]'(by rw [List.length_map]; exact hk) := fun k hk => by
    rw [List.getElem_map, List.getD_eq_getElem?_getD, List.getElem?_eq_getElem hk] <;> rfl
  rw [a j (by omega), a i hi] at e
  have := (List.getElem_inj nd).mp e
  omega
theorem Places.nodup {w : Int} {ps : List Int} (h : Places w ps) : ps.Nodup ∧ ∀ p ∈ ps, 0 ≤ p ∧ p ≤ top w := by
  obtain ⟨h, _⟩ := h
  have h : ((ps.map Dat.int).all (Dat.word w) && (decide (0 < (ps.map Dat.int).length) && climbs ((ps.map Dat.int).map Dat.toI))) = true := h
  rw [List.map_map, show ps.map (Dat.toI ∘ Dat.int) = ps from List.map_id _] at h
  simp only [Bool.and_eq_true] at h
  obtain ⟨h1, _, h3⟩ := h
  unfold climbs at h3
  rw [List.all_eq_true] at h3
  have step : ∀ i, i + 1 < ps.length → ps.getD i 0 < ps.getD (i + 1) 0 := fun i hi => of_decide_eq_true (h3 i (List.mem_range.mpr (by omega)))
  have lt : ∀ i j, i < j → j < ps.length → ps.getD i 0 < ps.getD j 0 := by
    intro i j hij
    induction j with
    | zero => omega
    | succ j ih =>
      intro hj
      rcases Nat.lt_or_ge i j with h | h
      · exact Int.lt_trans (ih h (by omega)) (step j hj)
      · have : i = j := by omega
        subst this
        exact step i hj
  refine ⟨List.pairwise_iff_getElem.mpr fun i j hi hj hij e => ?_, fun p hp => ?_⟩
  · have := lt i j hij hj
    rw [List.getD_eq_getElem?_getD, List.getD_eq_getElem?_getD, List.getElem?_eq_getElem hi, List.getElem?_eq_getElem hj] at this
    have this : ps[i] < ps[j] := this
    omega
  · have := List.all_eq_true.mp h1 (.int p) (List.mem_map.mpr ⟨p, hp, rfl⟩)
    exact Dat.within_int this
section
variable {G : Option Addr} {c0 c1 c2 c3 : Nat} {t0 t1 t2 t3 : TE} {Γ : AP.Ctx}
theorem y_twosIn {n : Int} {E : XK} (h0 : Ty G c0 t0 Γ (· = n)) (p : n ≠ 0) : Ty G (c0 + 0 + 0) (tCall cTwosIn.sp [] E (tCons t0 tNil)) Γ (· = twos n) := ty_call (C := cTwosIn) n (ta_cons h0 ta_nil) p
theorem y_costs0 {ps : List Int} {E : XK} (h0 : Ty G c0 t0 Γ (· = ps)) (p : ps.Nodup ∧ ps.length ≤ 30000) : Ty G (c0 + 0 + 0) (tCall cCosts0.sp [] E (tCons t0 tNil)) Γ (· = DictI.mk (ps.map fun p => (p, 0))) := ty_call (C := cCosts0) ps (ta_cons h0 ta_nil) p
theorem y_behind {d : DictI} {t : Int} {E : XK} (h0 : Ty G c0 t0 Γ (· = d)) (h1 : Ty G c1 t1 Γ (· = t)) (p : KcOk d.kvs) : Ty G (c0 + (c1 + 0) + 0) (tCall cBehind.sp [] E (tCons t0 (tCons t1 tNil))) Γ (· = DictI.mk (behind d.kvs t)) := ty_call (C := cBehind) (d, t) (ta_cons h0 (ta_cons h1 ta_nil)) p
end
end AP
set_option maxHeartbeats 4000000
/-! A generator in a slot; lists that grow and are read in between; the draws of places that most laws share. -/
namespace AP
open PySem PySem.Spec PyProof.Rows L2 Evl
section
variable {K : PySem.W.Frag} {G : Option Addr} {c c0 c1 c2 : Nat} {te ta tb : TE} {Γ : AP.Ctx} {α : Type} [Py α] {A : α → Prop} {B B' H H' B0 H0 : Hp} {v w : V} {σ : L2.St} {z z' z0 : Int} {D : Ends} {tz : TS}
/-- what was done while a growing list stood still -/
theorem Nx.outside {l : Addr} {o : HO} (s0 : At G z0 B0 H0) (n : Nx G c1 z0 B0 H0 z B H) (hl : H l = some o) (nl : B l = none) (n0 : H0 l = none) (m : Nx G c2 z (upd B l o) H z' B' H') : Nx G (c1 + c2) z0 B0 H0 z' B H' :=
  have f := (n.freeze s0 hl nl n0).1.trans s0 m
  ⟨⟨((Ex.new nl).trans m.up).trans f.at_.ex, fun g hg => ⟨(n.at_.gen g hg).1, (f.at_.gen g hg).2⟩⟩, n.up, n.new, f.lo, f.hi, f.keep⟩
/-- to a lesser unchanging part -/
theorem Slo.sink {Γ2 : AP.Ctx} (en : Slo B' σ Γ) (len : Γ2.length = Γ.length) (h : ∀ (k : Nat) (P2 : VP), Γ2[k]? = some (some P2) → ∃ P : VP, Γ[k]? = some (some P) ∧ Stays P2 ∧ ∀ v, P v B' → P2 v B) : Slo B σ Γ2 := ⟨by rw [len]; exact en.len, fun k P2 q => by
  obtain ⟨P, e, st, f⟩ := h k P2 q
  obtain ⟨v, h1, _, h3⟩ := en.all k P e
  exact ⟨v, h1, st, f v h3⟩⟩
theorem q_app (s0 : At G z0 B0 H0) (n : Nx G c0 z0 B0 H0 z B H) (en : Slo B σ Γ) {k : Nat} {l : Addr} {us : List V} (hk : Γ[k]? = some (some (RefP l))) (hl : H l = some (.lst us)) (nl : B l = none) (n0 : H0 l = none) (small : us.length < 100000)
    (h : Ty G c te Γ A) (hz : z0 + (c0 + c) ≤ 2 ^ 50)
    (kk : ∀ x v z' B' H', A x → Py.is x v B' → Ex B B' → Nx G (c0 + c) z0 B0 H0 z' B' H' → Slo B' σ Γ → H' l = some (.lst (us ++ [v])) → B' l = none → D.nx σ H') :
    tDrop (tBM K "list" rAppend (tVar k) (tCons te tNil)) D σ H :=
  q_appS (tz := fun _ => D.nx) (D := D) s0 n en hk hl nl n0 small h hz fun x v z' B' H' a b c d e f g _ _ => kk x v z' B' H' a b c d e f g
/-- a, l = e, [] -/
theorem q_parNewS {i j : Nat} (s0 : At G z0 B0 H0) (n : Nx G c0 z0 B0 H0 z B H) (en : Slo B σ Γ) (h : Ty G c te Γ A) (hz : z0 + (c0 + c) ≤ 2 ^ 50)
    (k : ∀ x l z' B' H' σ', A x → H' l = none → Nx G (c0 + c) z0 B0 H0 z' B' (upd H' l (.lst [])) → Slo B' σ' ((Γ.set i (some (Py.is x))).set j (some (RefP l))) → B' l = none → H0 l = none → tz D σ' (upd H' l (.lst []))) :
    tSeq (tPar i j (tCons te (tCons (tLst tNil) tNil))) tz D σ H := by
  refine h z B σ H en n.at_ (by have := n.hi; omega) _ fun x v z1 B1 H1 ax n1 hv => ?_
  refine ⟨by show 0 ≤ sizeLine; exact Nat.zero_le _, fun l hl => ?_⟩
  have nn := n.trans s0 n1
  refine ⟨v, .ref l, rfl, k x l z1 B1 H1 _ ax hl ((nn.trans s0 (Nx.more nn.at_ (Ex.new hl))).le (by omega)) (((en.up n1.up).put hv).set RefP.stays rfl) ?_ (nn.gone s0 hl)⟩
  cases e : B1 l with
  | none => rfl
  | some o => rw [nn.at_.ex _ _ e] at hl; cases hl
/-- a, l = (e, []) through a tuple -/
theorem q_parTNewS {i j : Nat} (s0 : At G z0 B0 H0) (n : Nx G c0 z0 B0 H0 z B H) (en : Slo B σ Γ) (h : Ty G c te Γ A) (hz : z0 + (c0 + c) ≤ 2 ^ 50)
    (k : ∀ x l z' B' H' σ', A x → H' l = some (.lst []) → Nx G (c0 + c) z0 B0 H0 z' B' H' → Slo B' σ' ((Γ.set i (some (Py.is x))).set j (some (RefP l))) → B' l = none → H0 l = none → tz D σ' H') :
    tSeq (tAsg (tTup (tCons te (tCons (tLst tNil) tNil))) (gTup K 2 (gCons (gName i) (gCons (gName j) gNil)))) tz D σ H := by
  refine h z B σ H en n.at_ (by have := n.hi; omega) _ fun x v z1 B1 H1 ax n1 hv => ?_
  refine ⟨by show 0 ≤ sizeLine; exact Nat.zero_le _, fun l hl => ?_⟩
  have nn := n.trans s0 n1
  have n2 := (nn.trans s0 (Nx.more nn.at_ (Ex.new (o := .lst []) hl)))
  have nl : B1 l = none := by
    cases e : B1 l with
    | none => rfl
    | some o => rw [nn.at_.ex _ _ e] at hl; cases hl
  refine ⟨sz_of (by simp), fun p hp => ⟨p, [v, .ref l], rfl, st_of upd_same, rfl, v, _, rfl, .ref l, _, rfl, rfl, ?_⟩⟩
  have n3 := n2.trans s0 (Nx.more n2.at_ (Ex.new (o := .tup [v, .ref l]) hp))
  have ne : l ≠ p := fun e => by rw [← e, upd_same] at hp; cases hp
  exact k x l z1 B1 _ _ ax (by rw [upd_ne ne, upd_same]) (n3.le (by omega)) (((en.up n1.up).put hv).set RefP.stays rfl) nl (nn.gone s0 hl)
/-- g = generator(script, i) -/
theorem q_genS {a : Addr} {ns : List Int} {k l m : Nat} {i : Nat} {E : XK} (s0 : At none z0 B0 H0) (n : Nx none c0 z0 B0 H0 z B H) (en : Slo B σ Γ)
    (h1 : Γ[k]? = some (some (ScP K a ns))) (h2 : Γ[l]? = some (some (Py.is ((i : Nat) : Int)))) (hi : i ≤ 1000)
    (kk : ∀ p z1 H1 σ', At (some p) z1 B H1 → 0 ≤ z1 → z1 ≤ 1000000 → (∀ c z' B' H', Nx (some p) c z1 B H1 z' B' H' → Nx none c0 z0 B0 H0 z B' H') → Slo B σ' (Γ.set m (some (Py.is (GenR.mk p)))) → tz D σ' H1) :
    tSeq (tAsg (tCall (spGenerator K) [] E (tCons (tVar k) (tCons (tVar l) tNil))) (gName m)) tz D σ H := by
  obtain ⟨v, e1, _, ev, hs⟩ := en.all k _ h1
  subst ev
  obtain ⟨u, e2, _, hu⟩ := en.all l _ h2
  cases (show u = .int (i : Int) from hu)
  refine ⟨_, e1, _, e2, ?_⟩
  refine ⟨a, ns, i, rfl, ex_l n.at_.ex hs, hi, fun p H1 np ex1 gen => ?_⟩
  obtain ⟨x, y, z1, g1, g2, ⟨g3, g4⟩, g5, g6⟩ := gen
  have nB : B p = none := fresh_back n.at_.ex np
  have at1 : At (some p) z1 B H1 := ⟨n.at_.ex.trans ex1, fun g eg => by cases eg; exact ⟨nB, x, y, g1, g2, g3, g4, g5⟩⟩
  refine kk p z1 H1 _ at1 g5 g6 (fun c z' B' H' nx => ?_) (en.put rfl)
  have b : Nx none 0 z B H z B' H' := ⟨⟨nx.at_.ex, fun g eg => by cases eg⟩, nx.up, fun b o hb => by
    rcases nx.new b o hb with h | h
    · exact .inl h
    · exact .inr (h.back ex1), Int.le_refl _, by omega, fun b o _ hb => nx.keep b o (fun z => by cases z; rw [np] at hb; cases hb) (ex1 b o hb)⟩
  exact (n.trans s0 b).le (by omega)
end
/-! what the draws of places say -/
def AscN (w m : Int) (ps : List Int) : Prop := 0 < ps.length ∧ (ps.length : Int) ≤ m ∧ (∀ p ∈ ps, 0 ≤ p ∧ p < 2 ^ w.toNat) ∧ ps.Pairwise (· < ·)
theorem climbs_up {ns : List Int} (h : ns.Pairwise (· < ·)) : climbs ns = true := by
  unfold climbs
  rw [List.all_eq_true]
  intro i hi
  have hi := List.mem_range.mp hi
  have h1 : i < ns.length := by omega
  have h2 : i + 1 < ns.length := by omega
  rw [decide_eq_true_eq, List.getD_eq_getElem?_getD, List.getD_eq_getElem?_getD, List.getElem?_eq_getElem h1, List.getElem?_eq_getElem h2]
  exact List.pairwise_iff_getElem.mp h i (i + 1) h1 h2 (Nat.lt_succ_self i)
theorem word_in {w p : Int} (h : 0 ≤ p ∧ p < 2 ^ w.toNat) : (Dat.int p).word w = true := by
  show (decide (0 ≤ p) && decide (p ≤ 2 ^ w.toNat - 1)) = true
  rw [decide_eq_true h.1, decide_eq_true (by omega)] <;> rfl
theorem AscN.places {w m : Int} {ps : List Int} (h : AscN w m ps) (hm : m ≤ 30000) : Places w ps := by
  refine ⟨?_, by have := h.2.1; omega⟩
  show ((ps.map Dat.int).all (Dat.word w) && (decide (0 < (ps.map Dat.int).length) && climbs ((ps.map Dat.int).map Dat.toI))) = true
  rw [List.map_map, List.length_map, decide_eq_true h.1, show ps.map (Dat.toI ∘ Dat.int) = ps from List.map_id _, climbs_up h.2.2.2, List.all_map]
  simp only [Bool.and_true, List.all_eq_true]
  exact fun x hx => word_in (h.2.2.1 x hx)
theorem AscN.nodup {w m : Int} {ps : List Int} (h : AscN w m ps) : ps.Nodup := h.2.2.2.imp fun h => by omega
theorem sorted_asc {w m : Int} {l ns : List Int} (pm : l.Perm ns) (so : l.Pairwise (· ≤ ·)) (nd : ns.Nodup) (h0 : 0 < ns.length) (hm : (ns.length : Int) ≤ m) (bd : ∀ p ∈ ns, 0 ≤ p ∧ p < 2 ^ w.toNat) : AscN w m l := by
  have ndL : l.Nodup := pm.symm.nodup nd
  refine ⟨by rw [pm.length_eq]; exact h0, by rw [pm.length_eq]; exact hm, fun p hp => bd p (pm.mem_iff.mp hp), ?_⟩
  have : l.Pairwise (fun a b : Int => a ≤ b ∧ a ≠ b) := List.Pairwise.and so ndL
  exact this.imp fun h => by omega
def cDouble : Con Int Int := ⟨fun m => [Py.is m], fun m _ => 0 ≤ m ∧ m ≤ 200, fun _ => 0, fun m n => n = 2 ^ m.toNat⟩
def cDPlaces : Con (Addr × Int × Int) (List Int) := ⟨fun i => [Py.is (GenR.mk i.1), Py.is i.2.1, Py.is i.2.2], fun i G => G = some i.1 ∧ wOk i.2.1 ∧ 1 ≤ i.2.2 ∧ i.2.2 ≤ 100 ∧ i.2.2 ≤ 2 ^ i.2.1.toNat, fun _ => 40000, fun i ps => AscN i.2.1 i.2.2 ps⟩
def cNear : Con (Addr × Int × Int) (List Int) := ⟨fun i => [Py.is (GenR.mk i.1), Py.is i.2.1, Py.is i.2.2], fun i G => G = some i.1 ∧ wOk i.2.1 ∧ 1 ≤ i.2.2 ∧ i.2.2 ≤ 100, fun _ => 40000, fun i ps => AscN i.2.1 i.2.2 ps⟩
def cDrawn : Con (Addr × Int × Int) (List Int) := ⟨fun i => [Py.is (GenR.mk i.1), Py.is i.2.1, Py.is i.2.2], fun i G => G = some i.1 ∧ wOk i.2.1 ∧ 1 ≤ i.2.2 ∧ i.2.2 ≤ 100, fun _ => 50000, fun i ps => AscN i.2.1 i.2.2 ps⟩
def cTwosL : Con Int Int := ⟨fun n => [Py.is n], fun n _ => n.natAbs < 2 ^ 200, fun _ => 0, fun n t => t = twos n⟩
section
variable {G : Option Addr} {c0 c1 c2 : Nat} {t0 t1 t2 : TE} {Γ : AP.Ctx} {g : Addr}
theorem y_double {m : Int} {E : XK} (h0 : Ty G c0 t0 Γ (· = m)) (p : 0 ≤ m ∧ m ≤ 200) : Ty G (c0 + 0 + 0) (tCall cDouble.sp [] E (tCons t0 tNil)) Γ (· = (2 : Int) ^ m.toNat) := ty_call (C := cDouble) m (ta_cons h0 ta_nil) p
theorem y_doubleN {A : Int → Prop} {E : XK} (h0 : Ty G c0 t0 Γ A) (p : ∀ m, A m → 0 ≤ m ∧ m ≤ 200) : Ty G (c0 + 0 + 0) (tCall cDouble.sp [] E (tCons t0 tNil)) Γ (fun n => ∃ m, A m ∧ n = (2 : Int) ^ m.toNat) :=
  ty_callN (C := cDouble) (ta_consN h0 ta_nil) fun vs B al => by
    obtain ⟨v, rfl, m, am, hv⟩ := al.one
    exact ⟨m, .cons (Py.stays m) hv .nil, p m am, Nat.le_refl _, fun y hy => ⟨m, am, hy⟩⟩
theorem y_dplaces {E : XK} {wd m : Int} (h0 : Ty (some g) c0 t0 Γ (· = GenR.mk g)) (h1 : Ty (some g) c1 t1 Γ (· = wd)) (h2 : Ty (some g) c2 t2 Γ (· = m)) (p : wOk wd ∧ 1 ≤ m ∧ m ≤ 100 ∧ m ≤ 2 ^ wd.toNat) :
    Ty (some g) (c0 + (c1 + (c2 + 0)) + 40000) (tCall cDPlaces.sp [] E (tCons t0 (tCons t1 (tCons t2 tNil)))) Γ (AscN wd m) := ty_call (C := cDPlaces) (g, wd, m) (ta_cons h0 (ta_cons h1 (ta_cons h2 ta_nil))) ⟨rfl, p⟩
theorem y_near {E : XK} {wd m : Int} (h0 : Ty (some g) c0 t0 Γ (· = GenR.mk g)) (h1 : Ty (some g) c1 t1 Γ (· = wd)) (h2 : Ty (some g) c2 t2 Γ (· = m)) (p : wOk wd ∧ 1 ≤ m ∧ m ≤ 100) :
    Ty (some g) (c0 + (c1 + (c2 + 0)) + 40000) (tCall cNear.sp [] E (tCons t0 (tCons t1 (tCons t2 tNil)))) Γ (AscN wd m) := ty_call (C := cNear) (g, wd, m) (ta_cons h0 (ta_cons h1 (ta_cons h2 ta_nil))) ⟨rfl, p⟩
end
/-! pigeons -/
theorem nodup_le : ∀ {l m : List Int}, l.Nodup → (∀ x ∈ l, x ∈ m) → l.length ≤ m.length
  | [], _, _, _ => Nat.zero_le _
  | a :: l, m, nd, h => by
    have nd' := List.nodup_cons.mp nd
    have q := List.perm_cons_erase (h a List.mem_cons_self)
    have := nodup_le (m := m.erase a) nd'.2 fun x hx => (List.mem_erase_of_ne fun (e : x = a) => nd'.1 (e ▸ hx)).mpr (h x (List.mem_cons_of_mem _ hx))
    rw [q.length_eq, List.length_cons, List.length_cons]
    omega
/-- of so many places one behind the other one is free -/
theorem free_place {found : List Int} {p most : Int} {n : Nat} (hn : found.length < n) (hm : (n : Int) ≤ most) (h : ∀ j, j < n → (p + (j : Int)) % most ∈ found) : False := by
  have nd : ((List.range n).map fun j : Nat => (p + (j : Int)) % most).Nodup := by
    refine List.Pairwise.map _ (R := fun a b : Nat => a < b ∧ b < n) (fun a b hab e => ?_) ?_
    · have h1 := Int.emod_emod_of_dvd (p + (a : Int)) (Int.dvd_refl most)
      have d : most ∣ (p + (b : Int)) - (p + (a : Int)) := Int.dvd_of_emod_eq_zero (Int.emod_eq_emod_iff_emod_sub_eq_zero.mp e.symm)
      have := Int.le_of_dvd (by omega) d
      omega
    · refine List.pairwise_iff_getElem.mpr fun i j hi hj hij => ?_
      simp at hi hj ⊢
      exact ⟨hij, hj⟩
  have := nodup_le nd fun x hx => by
    obtain ⟨j, hj, rfl⟩ := List.mem_map.mp hx
    exact h j (List.mem_range.mp hj)
  rw [List.length_map, List.length_range] at this
  omega
/-! more of loops -/
section
variable {K : PySem.W.Frag} {G : Option Addr} {c c0 c1 c2 : Nat} {te ta tb : TE} {tt : TT} {t : TS} {Γ : AP.Ctx} {α β : Type} [Py α] [Py β] {A : α → Prop} {A1 : β → Prop} {B B' H H' B0 H0 Ba Ha Bb Hb : Hp} {v w : V} {σ : L2.St} {z z' z0 za zb : Int} {D : Ends} {tz : TS}
theorem At.ne {l : Addr} (s0 : At G z0 B0 H0) (h : H0 l = none) : G ≠ some l := fun hg => by
  obtain ⟨_, _, _, q1, _⟩ := s0.gen l hg
  rw [q1] at h
  cases h
theorem Nx.keepL {l : Addr} {o : HO} (nx : Nx G c za Ba Ha zb Bb Hb) (hg : G ≠ some l) (hl : Ha l = some o) (hb : Ba l = none) (nt : ∀ xs, o ≠ .tup xs := by intro _ q; cases q) : Hb l = some o ∧ Bb l = none := by
  refine ⟨nx.keep l o hg hl, ?_⟩
  cases e : Bb l with
  | none => rfl
  | some u =>
    rcases nx.new l u e with h | h
    · rw [hb] at h; cases h
    · exact (h.no hl nt).elim
theorem q_parE {i j : Nat} (s0 : At G z0 B0 H0) (n : Nx G c0 z0 B0 H0 z B H) (en : Slo B σ Γ) (h1 : Ty G c1 ta Γ A) (h2 : Ty G c2 tb Γ A1) (hz : z0 + (c0 + (c1 + c2)) ≤ 2 ^ 50)
    (k : ∀ x y z' B' H' σ', A x → A1 y → Nx G (c1 + c2) z B H z' B' H' → Nx G (c0 + (c1 + c2)) z0 B0 H0 z' B' H' → Slo B' σ' ((Γ.set i (some (Py.is x))).set j (some (Py.is y))) → D.nx σ' H') :
    tPar i j (tCons ta (tCons tb tNil)) D σ H := q_par (tz := fun _ => D.nx) (D := D) s0 n en h1 h2 hz k
def Wn (G : Option Addr) (c0 : Nat) (z0 : Int) (B0 H0 : Hp) (Inv : Nat → AP.Ctx → Prop) (m : Nat) (σ : L2.St) (H : Hp) : Prop := ∃ m' Γ z B, m' < m ∧ Inv m' Γ ∧ Nx G c0 z0 B0 H0 z B H ∧ Slo B σ Γ
/-- while, without draws, told by the slots -/
theorem q_whileS (s0 : At G z0 B0 H0) (n : Nx G c0 z0 B0 H0 z B H) (en : Slo B σ Γ) (hz : z0 + c0 ≤ 2 ^ 50) (Inv : Nat → AP.Ctx → Prop) (m0 : Nat) (h0 : Inv m0 Γ)
    (hs : ∀ m Γ', Inv m Γ' → ∃ b, TyT G 0 tt Γ' (· = b) ∧ (b = true → ∀ z' B' H' σ', Nx G c0 z0 B0 H0 z' B' H' → Slo B' σ' Γ' → t { D with nx := Wn G c0 z0 B0 H0 Inv m, ct := Wn G c0 z0 B0 H0 Inv m, bk := tz D } σ' H') ∧
      (b = false → ∀ z' B' H' σ', Nx G c0 z0 B0 H0 z' B' H' → Slo B' σ' Γ' → tz D σ' H')) : tSeq (tWhile tt t) tz D σ H :=
  q_while (D := { D with nx := tz D }) (cb := 0) s0 n en (fun _ m Γ _ _ => Inv m Γ) m0 h0 fun i m Γ' z' B' H' σ' inv n en => by
    obtain ⟨b, ht, k1, k2⟩ := hs m Γ' inv
    have n' := n.le (c2 := c0) (by simp)
    refine ⟨b, fun Q hQ => ht z' B' σ' H' en n'.at_ (by have := n'.hi; omega) Q fun b z2 B2 H2 eb n2 => by subst eb; exact hQ z2 B2 H2 n2 (en.up n2.up), fun hb z2 B2 H2 s2 en => ?_, fun hb z2 B2 H2 s2 n en => k2 hb z2 B2 H2 σ' (n.le (by simp)) en⟩
    refine ⟨Wn G c0 z0 B0 H0 Inv m, fun σ3 H3 h => ?_, k1 hb z2 B2 H2 σ' ((n'.trans s0 s2).le (by omega)) en⟩
    obtain ⟨m', Γ3, z3, B3, h1, h2, h3, h4⟩ := h
    exact ⟨m', Γ3, z3, B3, h1, h2, h3.le (by simp), h4⟩
theorem cutL_upto {xs : List α} {m : Int} (h : 0 ≤ m) : cutL xs none (some m) = xs.take m.toNat := by
  obtain ⟨k, rfl⟩ : ∃ k : Nat, m = k := ⟨m.toNat, by omega⟩
  unfold cutL
  rw [HT.sIx_none, HT.sIx_nat, List.drop_zero, Nat.sub_zero, Int.toNat_natCast]
  by_cases hk : k ≤ xs.length
  · rw [Nat.min_eq_left hk]
  · rw [Nat.min_eq_right (by omega), List.take_of_length_le (Nat.le_refl _), List.take_of_length_le (by omega)]
theorem cutL_from {xs : List α} {m : Int} (h : 0 ≤ m) : cutL xs (some m) none = xs.drop m.toNat := by
  obtain ⟨k, rfl⟩ : ∃ k : Nat, m = k := ⟨m.toNat, by omega⟩
  unfold cutL
  rw [HT.sIx_none, HT.sIx_nat, Int.toNat_natCast]
  by_cases hk : k ≤ xs.length
  · rw [Nat.min_eq_left hk, List.take_of_length_le (by rw [List.length_drop]; exact Nat.le_refl _)]
  · rw [Nat.min_eq_right (by omega), List.drop_of_length_le (Nat.le_refl _), List.drop_of_length_le (by omega), List.take_nil]
end
/-- a list of ints that is at an address -/
structure LAt where
  at_ : Addr
  xs : List Int
instance : Py LAt := ⟨fun r v B => v = .ref r.at_ ∧ B r.at_ = some (.lst (r.xs.map V.int)), fun _ _ _ _ e h => ⟨h.1, e _ _ h.2⟩⟩
theorem Ty.lat {G : Option Addr} {c : Nat} {te : TE} {Γ : AP.Ctx} {l : Addr} {xs : List Int} (h : Ty G c te Γ (· = LAt.mk l xs)) : Ty G c te Γ (· = xs) := fun z B σ H en s hz Q q =>
  h z B σ H en s hz Q fun x v z' B' H' ex n hv => q xs v z' B' H' rfl n (by
    subst ex
    obtain ⟨h1, h2⟩ := hv
    rw [h1]
    exact Py.of_ints h2)
/-! each once -/
def freshB (found : List Int) (i : Nat) : Bool := !decide (found.getD i 0 ∈ found.take i)
def fresh (found : List Int) (k : Nat) : List Int := ((List.range k).filter (freshB found)).map fun i => found.getD i 0
theorem fresh_ok (found : List Int) : ∀ k, k ≤ found.length → (fresh found k).Nodup ∧ (∀ x ∈ fresh found k, x ∈ found.take k) ∧ (0 < k → 0 < (fresh found k).length) ∧ (fresh found k).length ≤ k
  | 0, _ => ⟨List.nodup_nil, by simp [fresh], fun h => absurd h (by decide), by simp [fresh]⟩
  | k + 1, h => by
    obtain ⟨h1, h2, h3, h4⟩ := fresh_ok found k (by omega)
    have e : fresh found (k + 1) = fresh found k ++ if freshB found k then [found.getD k 0] else [] := by
      unfold fresh
      rw [List.range_succ, List.filter_append, List.map_append]
      congr 1
      by_cases hb : freshB found k = true
      · rw [if_pos hb, List.filter_cons_of_pos hb] <;> rfl
      · rw [if_neg hb, List.filter_cons_of_neg hb] <;> rfl
    have tk : found.take (k + 1) = found.take k ++ [found.getD k 0] := by
      rw [List.take_succ_eq_append_getElem (by omega), List.getD_eq_getElem?_getD, List.getElem?_eq_getElem (by omega), Option.getD_some]
    rw [e, tk]
    by_cases hb : freshB found k = true
    · rw [if_pos hb]
      have hn : found.getD k 0 ∉ found.take k := by
        unfold freshB at hb
        simpa using hb
      refine ⟨List.nodup_append.mpr ⟨h1, by simp, fun a ha b hb => ?_⟩, fun x hx => ?_, fun _ => by simp, by simp; omega⟩
      · rw [List.mem_singleton.mp hb]
        exact fun e => hn (e ▸ h2 a ha)
      · rcases List.mem_append.mp hx with hx | hx
        · exact List.mem_append_left _ (h2 x hx)
        · exact List.mem_append_right _ hx
    · rw [if_neg hb, List.append_nil]
      refine ⟨h1, fun x hx => List.mem_append_left _ (h2 x hx), fun _ => ?_, by omega⟩
      by_cases hk : k = 0
      · subst hk
        exact absurd (by simp [freshB]) hb
      · exact h3 (by omega)
theorem twos_log (n : Int) (h : n.natAbs < 2 ^ 200) : twos n ≤ 200 := by
  have tw : ∀ f n, twF f n ≤ f := fun f => by
    induction f with
    | zero => exact fun _ => Nat.le_refl _
    | succ f ih =>
      intro n
      rw [twF]
      split
      · exact Nat.succ_le_succ (ih _)
      · exact Nat.zero_le _
  have := tw (n.natAbs.log2 + 1) n.natAbs
  have l : n.natAbs.log2 < 200 := PySem.Flt.log2_lt_of (by decide) h
  unfold twos twosN
  omega
theorem twos_zero : twos 0 = 0 := by unfold twos; rw [show (0 : Int).natAbs = 0 from rfl, twosN_zero]; rfl
end AP
set_option maxHeartbeats 4000000
/-! Results that are new: what is told may be changed by who asked. -/
namespace AP
open PySem PySem.Spec PyProof.Rows L2 Evl
/-- what is in the one and not in the other -/
def diff (B' B : Hp) : Hp := fun a => if B a = none then B' a else none
theorem diff_sub (B' B : Hp) : Ex (diff B' B) B' := fun a o h => by
  unfold diff at h
  split at h
  · exact h
  · cases h
theorem diff_mono {B0 B B' : Hp} (e : Ex B0 B) : Ex (diff B' B) (diff B' B0) := fun a o h => by
  unfold diff at h ⊢
  split at h
  · rename_i hb
    have : B0 a = none := by
      cases e0 : B0 a with
      | none => rfl
      | some u => rw [e _ _ e0] at hb; cases hb
    rw [if_pos this]
    exact h
  · cases h
theorem diff_up {B B1 B' : Hp} (e : Ex B1 B') : Ex (diff B1 B) (diff B' B) := fun a o h => by
  unfold diff at h ⊢
  split at h
  · rename_i hb
    rw [if_pos hb]
    exact e _ _ h
  · cases h
theorem diff_at {B' B : Hp} {a : Addr} {o : HO} (h : diff B' B a = some o) : B a = none ∧ B' a = some o := by
  unfold diff at h
  split at h
  · rename_i hb
    exact ⟨hb, h⟩
  · cases h
theorem Each.flat {α : Type} [Py α] (fl : ∀ y : α, Flat (Py.is y)) {B B' : Hp} : ∀ {xs : List α} {vs : List V}, Each B xs vs → Each B' xs vs
  | _, _, .nil => .nil
  | _, _, .cons h r => .cons (fl _ _ _ _ h) (Each.flat fl r)
/-- an expression whose value is new, all of it -/
def TyN (G : Option Addr) (c : Nat) (te : TE) (Γ : Ctx) {α : Type} [Py α] (A : α → Prop) : Prop :=
  ∀ z B σ H, Slo B σ Γ → At G z B H → z + c ≤ 2 ^ 50 → ∀ Q : VK, (∀ x v z' B' H', A x → Nx G c z B H z' B' H' → Py.is x v (diff B' B) → Q v H') → te σ H Q
/-- a promise whose result is new, all of it -/
def Con.spN {ι β : Type} [Py β] (C : Con ι β) : Sp := fun vs H Q _ => ∃ i G z B, Alls B (C.args i) vs ∧ C.pre i G ∧ At G z B H ∧ z + C.c i ≤ 2 ^ 50 ∧
  ∀ y w z' B' H', C.post i y → Nx G (C.c i) z B H z' B' H' → Py.is y w (diff B' B) → Q w H'
section
variable {K : PySem.W.Frag} {G : Option Addr} {c c0 c1 c2 c3 : Nat} {te ta tb tx : TE} {tt tu : TT} {g : TG} {Γ : Ctx} {ι α β γ : Type} [Py α] [Py β] [Py γ] {A A' : α → Prop} {A1 : β → Prop} {Ps : List VP} {tr : TA} {B B' B0 H H0 : Hp} {v w : V} {z z0 : Int} {D : Ends} {tz : TS} {σ : L2.St}
theorem TyN.ty (h : TyN G c te Γ A) : Ty G c te Γ A := fun z B σ H en s hz Q q => h z B σ H en s hz Q fun x v z' B' H' a nx is => q x v z' B' H' a nx (Py.st _ _ _ _ (diff_sub B' B) is)
theorem TyN.imp (h : TyN G c te Γ A) (i : ∀ x, A x → A' x) : TyN G c te Γ A' := fun z B σ H en s hz Q q => h z B σ H en s hz Q fun x v z' B' H' a => q x v z' B' H' (i x a)
theorem TyN.to {x y : α} (h : TyN G c te Γ (· = x)) (e : x = y) : TyN G c te Γ (· = y) := e ▸ h
theorem tn_callN {C : Con ι β} {dvs : List V} {E : XK} (h : TyA G c1 tr Γ Ps) (k : ∀ vs B, Alls B Ps vs → ∃ i, Alls B (C.args i) (vs ++ dvs) ∧ C.pre i G ∧ C.c i ≤ c2 ∧ ∀ y, C.post i y → A1 y) :
    TyN G (c1 + c2) (tCall C.spN dvs E tr) Γ A1 := fun z B σ H en s hz Q q => by
  refine h z B σ H en s (by omega) _ fun vs z1 B1 H1 al n1 => ?_
  obtain ⟨i, h1, h2, h3, h4⟩ := k vs B1 al
  exact ⟨i, G, z1, B1, h1, h2, n1.at_, by have := n1.hi; omega, fun y w z2 B2 H2 py n2 hw => q y w z2 B2 H2 (h4 y py) (n1.trans s (n2.le h3)) (Py.st _ _ _ _ (diff_mono n1.up) hw)⟩
theorem tn_call {C : Con ι β} {E : XK} (i : ι) (h : TyA G c1 tr Γ (C.args i)) (p : C.pre i G) : TyN G (c1 + C.c i) (tCall C.spN [] E tr) Γ (C.post i) :=
  tn_callN h fun vs B al => ⟨i, by rw [List.append_nil]; exact al, p, Nat.le_refl _, fun _ h => h⟩
/-- return of something new -/
theorem q_retN (s0 : At G z0 B0 H0) (n : Nx G c0 z0 B0 H0 z B H) (en : Slo B σ Γ) (h : TyN G c te Γ A) (hz : z0 + (c0 + c) ≤ 2 ^ 50)
    (k : ∀ x v z' B' H', A x → Nx G (c0 + c) z0 B0 H0 z' B' H' → Py.is x v (diff B' B0) → D.rt v H') : tRet te D σ H :=
  h z B σ H en n.at_ (by have := n.hi; omega) _ fun x v z' B' H' ax n' hv => k x v z' B' H' ax (n.trans s0 n') (Py.st _ _ _ _ (diff_mono n.up) hv)
theorem tn_lc {wi : TI} {js vs : List Nat} {M ct cb : Nat} {An : Nat → Prop} {F : Nat → Ctx → Ctx} {T : Nat → Bool → Prop} {A : Nat → α → Prop} (h : TyI G c wi g Γ js An F) (hM : ∀ m, An m → m ≤ M) (hm : M ≤ 40000) (hj : ∀ j ∈ js, j ∈ vs)
    (ht : ∀ m, An m → ∀ i, i < m → TyT G ct tt (F i (wipeC Γ vs)) (T i)) (fl : ∀ y : α, Flat (Py.is y)) (he : ∀ m, An m → ∀ i, i < m → T i true → Ty G cb te (F i (wipeC Γ vs)) (A i)) :
    TyN G (c + M * (ct + cb)) (tLc wi g tt te vs) Γ (fun ys => ∃ m, An m ∧ Sel T A m ys) := fun z B σ H en s hz Q q => by
  refine h z B σ H en s (by omega) _ fun J m z1 B1 H1 am n1 src => fun D hD => ?_
  have mM := hM m am
  have hz : z + ((c + m * (ct + cb) : Nat) : Int) ≤ 2 ^ 50 := by
    have : m * (ct + cb) ≤ M * (ct + cb) := Nat.mul_le_mul_right _ mM
    generalize m * (ct + cb) = w1 at this ⊢
    generalize M * (ct + cb) = w2 at this hz
    omega
  replace q : ∀ (x : List α) (v : V) (z' : Int) (B' H' : Hp), Sel T A m x → Nx G (c + m * (ct + cb)) z B H z' B' H' → Py.is x v (diff B' B) → Q v H' := fun x v z' B' H' sx nx => q x v z' B' H' ⟨m, am, sx⟩ (nx.le (Nat.add_le_add_left (Nat.mul_le_mul_right _ mM) _))
  -- the word: the base without the new list
  refine ⟨fun i k H' => k + i = m ∧ ∃ ys us z' B', Sel T A i ys ∧ Each B' ys us ∧ H' D = some (.lst us) ∧ B' D = none ∧ Ex B1 B' ∧ Nx G (c + i * (ct + cb)) z B H z' B' H', ⟨m, by omega, [], [], z1, B1, .nil, .nil, upd_same, ?_, Ex.refl _, ?_⟩, ?_⟩
  · cases e : B1 D with
    | none => rfl
    | some o => rw [n1.at_.ex _ _ e] at hD; cases hD
  · exact (n1.trans s (Nx.more n1.at_ (Ex.new hD))).le (by omega)
  rintro i k H2 ⟨e, ys, us, z2, B2, sel, ea, hD2, nD, x2, n2⟩
  have nDH : H D = none := n1.gone s hD
  have gD : G ≠ some D := fun hg => by
    obtain ⟨_, _, _, q1, _⟩ := s.gen D hg
    rw [q1] at nDH
    cases nDH
  rcases Nat.lt_or_ge i m with lt | ge
  · have succ : (i + 1) * (ct + cb) = i * (ct + cb) + (ct + cb) := by rw [Nat.add_mul, Nat.one_mul]
    have bound : z + ((c + i * (ct + cb) + (ct + cb) : Nat) : Int) ≤ 2 ^ 50 := by
      have h1 : (i + 1) * (ct + cb) ≤ m * (ct + cb) := Nat.mul_le_mul_right _ lt
      have h2 : (i + 1) * (ct + cb) = i * (ct + cb) + (ct + cb) := by rw [Nat.add_mul, Nat.one_mul]
      rw [h2] at h1
      generalize i * (ct + cb) = w1 at h1 ⊢
      generalize m * (ct + cb) = w2 at h1 hz
      omega
    have dropNx : ∀ {z' : Int} {B' H' : Hp} {c' : Nat} (o : HO), B' D = none → Nx G c' z B H z' B' H' → Nx G c' z B H z' B' (upd H' D o) := fun {z' B' H' c'} o nB nx => by
      refine ⟨⟨fun a u ha => ?_, fun g' hg => ?_⟩, nx.up, nx.new, nx.lo, nx.hi, fun a u hg ha => ?_⟩
      · rw [upd_ne (ne_of_none ha nB)]
        exact nx.at_.ex a u ha
      · obtain ⟨q1, x, y, q2, q3⟩ := nx.at_.gen g' hg
        exact ⟨q1, x, y, by rw [upd_ne (fun z => gD (by rw [hg, z]))]; exact q2, q3⟩
      · rw [upd_ne (ne_of_none ha nDH)]
        exact nx.keep a u hg ha
    generalize hw' : i * (ct + cb) = w at n2 bound succ
    refine .inr ⟨src.go i lt H2 (x2.trans n2.at_.ex), fun H' => ∃ ys us z' B', Sel T A (i + 1) ys ∧ Each B' ys us ∧ H' D = some (.lst us) ∧ B' D = none ∧ Ex B1 B' ∧ Nx G (c + (i + 1) * (ct + cb)) z B H z' B' H', fun H' p => ⟨k - 1, by omega, by omega, p⟩, fun x H3 y => ?_⟩
    obtain ⟨e3, fin⟩ := src.yld i lt x H2 H3 (x2.trans n2.at_.ex) y
    have enB : Slo B2 (L2.wipe σ vs) (wipeC Γ vs) := (en.up n2.up).wipe vs
    refine fin (L2.wipe σ vs) (wipeC Γ vs) B2 enB x2 n2.at_.ex _ fun σ' en3 hw => ⟨?_, ?_⟩
    · have : ∀ (us : List Nat) (τ : L2.St), L2.wipe (L2.wipe τ us) us = L2.wipe τ us := by
        intro us
        induction us with
        | nil => intro τ; rfl
        | cons u us ih =>
          intro τ
          show (L2.wipe ((L2.wipe τ us).set u none) us).set u none = (L2.wipe τ us).set u none
          by_cases hu : u ∈ us
          · rw [wipe_set _ u _ us hu, ih]
          · have com : ∀ (ws : List Nat) (τ : L2.St), (L2.wipe (τ.set u none) ws).set u none = (L2.wipe τ ws).set u none := by
              intro ws
              induction ws with
              | nil => intro τ; show (τ.set u none).set u none = _; rw [List.set_set]; rfl
              | cons w ws ih2 =>
                intro τ
                show ((L2.wipe (τ.set u none) ws).set w none).set u none = ((L2.wipe τ ws).set w none).set u none
                by_cases k : w = u
                · subst k
                  rw [List.set_set, List.set_set]
                  exact ih2 τ
                · rw [List.set_comm _ _ k, List.set_comm _ _ k, ih2]
            rw [com us, ih]
      rw [hw vs hj, this]
    have n3 : Nx G (c + w) z B H z2 B2 H3 := (n2.trans s (Nx.more n2.at_ e3)).le (by omega)
    have keepD : ∀ {c' : Nat} {za zb : Int} {Ba Bb Ha Hb : Hp} {vs : List V}, Nx G c' za Ba Ha zb Bb Hb → Ha D = some (.lst vs) → Ba D = none → Hb D = some (.lst vs) ∧ Bb D = none := fun {c' za zb Ba Bb Ha Hb vs} nx hd hb => by
      refine ⟨nx.keep D _ gD hd, ?_⟩
      cases e : Bb D with
      | none => rfl
      | some o =>
        rcases nx.new D o e with h | h
        · rw [hb] at h; cases h
        · exact (h.no hd).elim
    refine ht m am i lt z2 B2 σ' H3 en3 n3.at_ (by have := n3.hi; omega) _ fun b z4 B4 H4 tb n4 => ?_
    obtain ⟨hD4, nD4⟩ := keepD n4 (e3 D _ hD2) nD
    cases b with
    | false =>
      show ∃ ys us z' B', _
      refine ⟨ys, us, z4, B4, .no sel tb, ea.ex n4.up, hD4, nD4, x2.trans n4.up, (n3.trans s n4).le (by rw [succ]; omega)⟩
    | true =>
      show te σ' H4 fun y H5 => _
      refine he m am i lt tb z4 B4 σ' H4 (en3.up n4.up) n4.at_ (by have := n3.hi; have := n4.hi; omega) _ fun y v z5 B5 H5 ay n5 hv => ?_
      obtain ⟨hD5, nD5⟩ := keepD n5 hD4 nD4
      refine ⟨us, hD5, sz_lt (by rw [ea.len]; have := sel.len; omega), ys ++ [y], us ++ [v], z5, B5, .yes sel tb ay, ((ea.ex n4.up).ex n5.up).snoc hv, upd_same, nD5, (x2.trans n4.up).trans n5.up, dropNx _ nD5 (((n3.trans s n4).trans s n5).le (by rw [succ]; omega))⟩
  · cases (show i = m by omega)
    have nB : B D = none := by
      cases e : B D with
      | none => rfl
      | some o => rw [s.ex _ _ e] at nDH; cases nDH
    refine .inl ⟨src.stop H2 (x2.trans n2.at_.ex), ?_⟩
    refine q ys (.ref D) z2 (upd B2 D (.lst us)) H2 sel ⟨⟨fun a u ha => ?_, fun g' hg => ?_⟩, n2.up.trans (Ex.new nD), fun a u ha => ?_, n2.lo, n2.hi, n2.keep⟩ ⟨D, us, rfl, by unfold diff; rw [if_pos nB, upd_same], ea.flat fl⟩
    · by_cases e : a = D
      · subst e
        rw [upd_same] at ha
        rw [hD2, ha]
      · rw [upd_ne e] at ha
        exact n2.at_.ex a u ha
    · obtain ⟨q1, q2⟩ := n2.at_.gen g' hg
      exact ⟨by rw [upd_ne (fun z => gD (by rw [hg, z]))]; exact q1, q2⟩
    · by_cases e : a = D
      · subst e
        exact .inr (.inl nDH)
      · rw [upd_ne e] at ha
        exact n2.new a u ha
/-- new as from a fixed beginning -/
def NewP (B0 : Hp) {α : Type} [Py α] (x : α) : VP := fun v B => Py.is x v (diff B B0)
theorem NewP.stays {B0 : Hp} {x : α} : Stays (NewP B0 x) := fun _ _ _ e h => Py.st _ _ _ _ (diff_up e) h
def TyD (B0 : Hp) (G : Option Addr) (c : Nat) (te : TE) (Γ : Ctx) {α : Type} [Py α] (A : α → Prop) : Prop :=
  ∀ z B σ H, Ex B0 B → Slo B σ Γ → At G z B H → z + c ≤ 2 ^ 50 → ∀ Q : VK, (∀ x v z' B' H', A x → Nx G c z B H z' B' H' → Py.is x v (diff B' B0) → Q v H') → te σ H Q
theorem q_retD (s0 : At G z0 B0 H0) (n : Nx G c0 z0 B0 H0 z B H) (en : Slo B σ Γ) (h : TyD B0 G c te Γ A) (hz : z0 + (c0 + c) ≤ 2 ^ 50)
    (k : ∀ x v z' B' H', A x → Nx G (c0 + c) z0 B0 H0 z' B' H' → Py.is x v (diff B' B0) → D.rt v H') : tRet te D σ H :=
  h z B σ H n.up en n.at_ (by have := n.hi; omega) _ fun x v z' B' H' ax n' hv => k x v z' B' H' ax (n.trans s0 n') hv
theorem At.none (s0 : At G z0 B0 H0) {l : Addr} (h : H0 l = Option.none) : B0 l = Option.none := by
  cases e : B0 l with
  | none => rfl
  | some o => rw [s0.ex _ _ e] at h; cases h
end
/-! a def whose result is new -/
section
variable {P : Program} {w : World} {K : PySem.W.Frag} {mg : Str → Option Value} {base : Heap} {ι β : Type} [Py β]
abbrev BackN (C : Con ι β) (i : ι) (G : Option Addr) (z0 : Int) (B0 H0 : Hp) (Q : VK) : Prop :=
  ∀ y w z' B' H', C.post i y → Nx G (C.c i) z0 B0 H0 z' B' H' → Py.is y w (diff B' B0) → Q w H'
theorem con_goN {x qual : Str} {st : Stmt} {f : Addr} {fd : FuncData} {N ps : List Str} {k : Nat}
    (F : Df K x qual st [] f fd) (S : FnScope N ps (defScope st)) (C : Con ι β) (hl : ∀ i, (C.args i).length = ps.length)
    (body : ∀ (cdv : Value) (A : Around) (outer : List PySem.Env) (s : Shared) (H : Hp) (E : XK) (i : ι) (G : Option Addr) (z0 : Int) (B0 : Hp),
      Room k (A.deeper (envOfC qual (defScope st) s.heap.objs.size f cdv)) → C.pre i G → At G z0 B0 H → z0 + C.c i ≤ 2 ^ 50 →
        ∃ t, PSs (cxOf CX0 P w K mg base N qual (defScope st) f cdv A outer s H E).nox (defBody st) t ∧
          ∀ (σ : L2.St) (Q : VK), Slo B0 σ (ctx0 N.length (C.args i)) → BackN C i G z0 B0 H Q → t { nx := fun _ H' => Q .non H', rt := Q } σ H) :
    FnOk P w K mg base CX0 (k + 1) f fd ps C.spN := by
  refine F.go S (fun vs H Q E h => ?_) (fun cdv A outer s H vs Q E hr h => ?_)
  · obtain ⟨i, _, _, _, al, _⟩ := h
    rw [al.len]
    exact hl i
  · obtain ⟨i, G, z0, B0, al, hp, at0, hz, q⟩ := h
    obtain ⟨t, ht, run⟩ := body cdv A outer s H E i G z0 B0 hr hp at0 hz
    exact ⟨t, ht, run _ Q (Slo.start al) q⟩
end
end AP
set_option maxHeartbeats 4000000
/-! zip of three lists. -/
namespace AP
open PySem PySem.Spec PyProof.Rows L2 Evl
end AP
set_option maxHeartbeats 4000000
/-! Words of polynomials. -/
namespace AP
open PySem PySem.Spec PyProof.Rows L2 Evl
theorem two_cast' (k : Nat) : ((2 : Int) ^ k) = ((2 ^ k : Nat) : Int) := by norm_cast
def wholesB : Dat → Bool
  | .lst ds => ds.all Dat.whole
  | _ => false
def wsOk (w : Int) (ps ws : List Int) : Prop := wordsAtB w ps.length (.lst (ws.map Dat.int)) = true ∧ ws.length ≤ 30000
def cAreWholes : Con Dat Bool := ⟨fun d => [Py.is d], fun d _ => d.small, fun _ => 0, fun d b => b = wholesB d⟩
theorem wholes_ints (ns : List Int) : wholesB (.lst (ns.map Dat.int)) = true := by
  show (ns.map Dat.int).all Dat.whole = true
  rw [List.all_map]
  exact List.all_eq_true.mpr fun _ _ => rfl
theorem wsOk.len {w : Int} {ps ws : List Int} (h : wsOk w ps ws) : ws.length = ps.length := by
  have e : ((ws.map Dat.int).all (Dat.word w) && decide ((ws.map Dat.int).length = ps.length)) = true := h.1
  rw [Bool.and_eq_true] at e
  have := of_decide_eq_true e.2
  rwa [List.length_map] at this
theorem Places.range {w p : Int} {ps : List Int} (hw : wOk w) (h : Places w ps) (hp : p ∈ ps) : 0 ≤ p ∧ p.natAbs < 2 ^ 250 := by
  obtain ⟨h0, h1⟩ := h.nodup.2 p hp
  have hw : 1 ≤ w ∧ w ≤ 64 := hw
  have h1 : p ≤ 2 ^ w.toNat - 1 := h1
  rw [two_cast'] at h1
  have := Nat.pow_le_pow_right (n := 2) (by decide) (show w.toNat ≤ 64 by omega)
  refine ⟨h0, ?_⟩
  have : p.natAbs < 2 ^ 64 := by omega
  exact Nat.lt_trans this (by decide)
end AP
set_option maxHeartbeats 4000000
/-! Typed data: equality, repr; calls with drawn arguments; tests of a growing list; objects. -/
namespace AP
open PySem PySem.Spec PyProof.Rows L2 Evl
/-! ### none or a value -/
instance {α : Type} [Py α] : Py (Option α) := ⟨fun o v B => match o with | none => v = .non | some x => Py.is x v B, fun o v B B' e h => by
  cases o with
  | none => exact h
  | some x => exact Py.st x v B B' e h⟩
/-- three -/
structure T3 (α β γ : Type) where
  a : α
  b : β
  c : γ
instance {α β γ : Type} [Py α] [Py β] [Py γ] : Py (T3 α β γ) := ⟨fun x v B => ∃ p a b c, v = .ref p ∧ B p = some (.tup [a, b, c]) ∧ Py.is x.a a B ∧ Py.is x.b b B ∧ Py.is x.c c B,
  fun _ _ _ _ e ⟨p, a, b, c, h1, h2, h3, h4, h5⟩ => ⟨p, a, b, c, h1, e _ _ h2, Py.st _ _ _ _ e h3, Py.st _ _ _ _ e h4, Py.st _ _ _ _ e h5⟩⟩
/-! ### typed data -/
class DatOf (α : Type) [Py α] [DecidableEq α] where
  toD : α → Dat
  cast : ∀ (x : α) (v : V) (B : Hp), Py.is x v B → DatV B (toD x) v
  lay : ∀ x : α, (toD x).py.canLay0 = true
  nod : ∀ x : α, (toD x).py.hasDict = false
  dep : Nat
  depth : ∀ x : α, (toD x).py.depth ≤ dep
  eqv : ∀ x y : α, PyData.eqv (toD x).py (toD y).py = decide (x = y)
  notNone : ∀ x : α, PyData.eqv .none (toD x).py = false ∧ PyData.eqv (toD x).py .none = false
open DatOf (toD)
theorem dec_beq {α : Type} [DecidableEq α] (x y : α) : (x == y) = decide (x = y) := by
  by_cases h : x = y
  · rw [decide_eq_true h, h]; exact beq_self_eq_true y
  · rw [decide_eq_false h]; exact beq_false_of_ne h
instance : DatOf Int := ⟨Dat.int, fun _ _ _ h => dat_int h, fun _ => rfl, fun _ => rfl, 0, fun _ => Nat.le_refl _, fun x y => dec_beq x y, fun _ => ⟨rfl, rfl⟩⟩
instance : DatOf Bool := ⟨Dat.bl, fun x v _ h => by cases (show v = .bl x from h); exact .bl x, fun _ => rfl, fun _ => rfl, 0, fun _ => Nat.le_refl _, fun x y => dec_beq x y, fun _ => ⟨rfl, rfl⟩⟩
section
variable {α β : Type} [Py α] [DecidableEq α] [DatOf α] [Py β] [DecidableEq β] [DatOf β]
theorem each_dats {B : Hp} : ∀ {xs : List α} {vs : List V}, Each B xs vs → DatVs B (xs.map toD) vs
  | _, _, .nil => .nil
  | _, _, .cons h r => .cons (DatOf.cast _ _ _ h) (each_dats r)
theorem all_lay : ∀ xs : List α, PyData.canLayAll0 (pyAll (xs.map toD)) = true
  | [] => rfl
  | x :: xs => by show ((toD x).py.canLay0 && PyData.canLayAll0 (pyAll (xs.map toD))) = true; rw [DatOf.lay x, all_lay xs] <;> rfl
theorem all_nod : ∀ xs : List α, PyData.hasDictAll (pyAll (xs.map toD)) = false
  | [] => rfl
  | x :: xs => by show ((toD x).py.hasDict || PyData.hasDictAll (pyAll (xs.map toD))) = false; rw [DatOf.nod x, all_nod xs] <;> rfl
theorem all_depth : ∀ xs : List α, PyData.depthAll (pyAll (xs.map toD)) ≤ DatOf.dep α
  | [] => Nat.zero_le _
  | x :: xs => Nat.max_le.mpr ⟨DatOf.depth x, all_depth xs⟩
theorem all_eqv : ∀ xs ys : List α, PyData.eqvAll (pyAll (xs.map toD)) (pyAll (ys.map toD)) = decide (xs = ys)
  | [], [] => rfl
  | [], _ :: _ => rfl
  | _ :: _, [] => rfl
  | x :: xs, y :: ys => by
    show (PyData.eqv (toD x).py (toD y).py && PyData.eqvAll (pyAll (xs.map toD)) (pyAll (ys.map toD))) = _
    rw [DatOf.eqv, all_eqv xs ys, ← Bool.decide_and]
    exact decide_eq_decide.mpr ⟨fun ⟨a, b⟩ => by rw [a, b], fun h => List.cons.inj h⟩
instance : DatOf (List α) := ⟨fun xs => .lst (xs.map toD), fun xs v B h => by obtain ⟨p, vs, rfl, h1, h2⟩ := h; exact .lst h1 (each_dats h2), all_lay, all_nod, DatOf.dep α + 1, fun xs => Nat.succ_le_succ (all_depth xs), all_eqv, fun _ => ⟨rfl, rfl⟩⟩
instance : DatOf (α × β) := ⟨fun x => .tup [toD x.1, toD x.2], fun x v B h => by
    obtain ⟨p, a, b, rfl, h1, h2, h3⟩ := h
    exact .tup h1 (.cons (DatOf.cast _ _ _ h2) (.cons (DatOf.cast _ _ _ h3) .nil)),
  fun x => by show ((toD x.1).py.canLay0 && ((toD x.2).py.canLay0 && true)) = true; rw [DatOf.lay, DatOf.lay] <;> rfl,
  fun x => by show ((toD x.1).py.hasDict || ((toD x.2).py.hasDict || false)) = false; rw [DatOf.nod, DatOf.nod] <;> rfl,
  max (DatOf.dep α) (DatOf.dep β) + 1, fun x => by
    show max (toD x.1).py.depth (max (toD x.2).py.depth 0) + 1 ≤ _
    have h1 := DatOf.depth x.1
    have h2 := DatOf.depth x.2
    omega, fun x y => by
    show (PyData.eqv (toD x.1).py (toD y.1).py && (PyData.eqv (toD x.2).py (toD y.2).py && true)) = _
    rw [DatOf.eqv, DatOf.eqv, Bool.and_true, ← Bool.decide_and]
    exact decide_eq_decide.mpr ⟨fun ⟨a, b⟩ => Prod.ext a b, fun h => by rw [h]; exact ⟨rfl, rfl⟩⟩, fun _ => ⟨rfl, rfl⟩⟩
end
section
variable {K : PySem.W.Frag} {G : Option Addr} {c c1 c2 c3 : Nat} {te ta tb : TE} {Γ : Ctx} {α β : Type} [Py α] [DecidableEq α] [DatOf α] [Py β]
theorem Ty.dat {x : α} (h : Ty G c te Γ (· = x)) : Ty G c te Γ (· = toD x) := h.cast fun v B q => DatOf.cast x v B q
/-- shape alone -/
structure Shp (d : Dat) : Prop where
  lay : d.py.canLay0 = true
  nod : d.py.hasDict = false
  depth : d.py.depth ≤ 60
theorem shp {x : α} (h : DatOf.dep α ≤ 60 := by decide) : Shp (toD x) := ⟨DatOf.lay x, DatOf.nod x, Nat.le_trans (DatOf.depth x) h⟩
theorem ty_eqS' {d e : Dat} (h : Ty G c1 ta Γ (· = d)) (h2 : Ty G c2 tb Γ (· = e)) (r : Shp d) (r' : Shp e) : Ty G (c1 + c2) (tOp (rEqD K) ta tb) Γ (· = PyData.eqv d.py e.py) :=
  ty_op h h2 fun x y v w B ex ey hv hw z B' H ee s Q q => by
    subst ex ey
    have sh : ∀ {d : Dat}, Shp d → SeqAt.shaped d.py = true := fun {d} r => by
      have := r.depth
      unfold SeqAt.shaped
      rw [r.lay, decide_eq_true (by omega)] <;> rfl
    exact ⟨_, _, DatV.dp (ee.trans s.ex) hv r.nod, DatV.dp (ee.trans s.ex) hw r'.nod, sh r, sh r', q _ _ z B' H rfl (.refl s) rfl⟩
theorem ty_neS' {d e : Dat} (h : Ty G c1 ta Γ (· = d)) (h2 : Ty G c2 tb Γ (· = e)) (r : Shp d) (r' : Shp e) : Ty G (c1 + c2) (tOp (rNeD K) ta tb) Γ (· = !PyData.eqv d.py e.py) :=
  ty_op h h2 fun x y v w B ex ey hv hw z B' H ee s Q q => by
    subst ex ey
    have sh : ∀ {d : Dat}, Shp d → SeqAt.shaped d.py = true := fun {d} r => by
      have := r.depth
      unfold SeqAt.shaped
      rw [r.lay, decide_eq_true (by omega)] <;> rfl
    exact ⟨_, _, DatV.dp (ee.trans s.ex) hv r.nod, DatV.dp (ee.trans s.ex) hw r'.nod, sh r, sh r', q _ _ z B' H rfl (.refl s) rfl⟩
/-- ==, != of data of one kind -/
theorem ty_eqG {x y : α} (h : Ty G c1 ta Γ (· = x)) (h2 : Ty G c2 tb Γ (· = y)) (hd : DatOf.dep α ≤ 60 := by decide) : Ty G (c1 + c2) (tOp (rEqD K) ta tb) Γ (· = decide (x = y)) := (ty_eqS' h.dat h2.dat (shp hd) (shp hd)).to (DatOf.eqv x y)
theorem ty_neG {x y : α} (h : Ty G c1 ta Γ (· = x)) (h2 : Ty G c2 tb Γ (· = y)) (hd : DatOf.dep α ≤ 60 := by decide) : Ty G (c1 + c2) (tOp (rNeD K) ta tb) Γ (· = !decide (x = y)) := (ty_neS' h.dat h2.dat (shp hd) (shp hd)).to (by rw [DatOf.eqv])
end
/-! repr -/
/-- showable, each leaf short, so heavy -/
structure Rw (L W : Nat) (d : Dat) : Prop where
  show_ : d.py.showable = true
  short : d.py.leavesShort L = true
  wt : d.py.weight ≤ W
theorem rw_int {L k : Nat} {n : Int} (h : n.natAbs < 2 ^ k) (k0 : 0 < k) (hk : k ≤ 1900) (hL : k + 10 ≤ L) : Rw L k (.int n) := by
  have l2 : n.natAbs.log2 < k := by
    by_cases h0 : n.natAbs = 0
    · rw [h0]
      exact k0
    · exact (Nat.log2_lt h0).mpr h
  refine ⟨?_, ?_, ?_⟩
  · show decide (n.natAbs.log2 < 1920) = true
    exact decide_eq_true (by omega)
  · show decide ((PyData.shown (.int n)).length ≤ L) = true
    refine decide_eq_true ?_
    have e := int_text_length_le10 (k := k) k0 (Nat.lt_of_lt_of_le h (Nat.pow_le_pow_left (by decide) k))
    show (Str.ofString (toString n)).length ≤ L
    rw [PySem.ofString_length]
    omega
  · show (if n == 0 then 0 else n.natAbs.log2 + 1) ≤ k
    split <;> omega
theorem Rw.mono {L W W' : Nat} {d : Dat} (h : Rw L W d) (b : W ≤ W') : Rw L W' d := ⟨h.show_, h.short, Nat.le_trans h.wt b⟩
theorem rw_all {L W : Nat} : ∀ {ds : List Dat}, (∀ d ∈ ds, Rw L W d) → PyData.showableAll (pyAll ds) = true ∧ PyData.leavesShortAll L (pyAll ds) = true ∧ PyData.weightAll (pyAll ds) ≤ (W + 1) * ds.length
  | [], _ => ⟨rfl, rfl, Nat.zero_le _⟩
  | d :: ds, h => by
    obtain ⟨a, c, g⟩ := rw_all (ds := ds) fun x hx => h x (List.mem_cons_of_mem _ hx)
    have r := h d List.mem_cons_self
    refine ⟨?_, ?_, ?_⟩
    · show (d.py.showable && PyData.showableAll (pyAll ds)) = true
      rw [r.show_, a] <;> rfl
    · show (d.py.leavesShort L && PyData.leavesShortAll L (pyAll ds)) = true
      rw [r.short, c] <;> rfl
    · show d.py.weight + 1 + PyData.weightAll (pyAll ds) ≤ (W + 1) * (ds.length + 1)
      have := r.wt
      rw [Nat.mul_add, Nat.mul_one]
      omega
theorem rw_lst {L W m : Nat} {ds : List Dat} (h : ∀ d ∈ ds, Rw L W d) (hm : ds.length ≤ m) : Rw L ((W + 1) * m) (.lst ds) := by
  obtain ⟨a, c, g⟩ := rw_all h
  exact ⟨a, c, Nat.le_trans g (Nat.mul_le_mul_left _ hm)⟩
theorem rw_tup {L W m : Nat} {ds : List Dat} (h : ∀ d ∈ ds, Rw L W d) (hm : ds.length ≤ m) : Rw L ((W + 1) * m) (.tup ds) := by
  obtain ⟨a, c, g⟩ := rw_all h
  exact ⟨a, c, Nat.le_trans g (Nat.mul_le_mul_left _ hm)⟩
theorem rw_list {α : Type} [Py α] [DecidableEq α] [DatOf α] {L W m : Nat} {xs : List α} (h : ∀ x ∈ xs, Rw L W (toD x)) (hm : xs.length ≤ m) : Rw L ((W + 1) * m) (toD xs) :=
  rw_lst (fun d hd => by obtain ⟨x, hx, rfl⟩ := List.mem_map.mp hd; exact h x hx) (by rw [List.length_map]; exact hm)
theorem rw_pair {α β : Type} [Py α] [DecidableEq α] [DatOf α] [Py β] [DecidableEq β] [DatOf β] {L W : Nat} {x : α × β} (h : Rw L W (toD x.1)) (h' : Rw L W (toD x.2)) : Rw L ((W + 1) * 2) (toD x) :=
  rw_tup (fun d hd => by
    rcases List.mem_cons.mp hd with e | e
    · rw [e]; exact h
    · rw [List.mem_singleton.mp e]; exact h') (Nat.le_refl _)
theorem rw_bool {L : Nat} {b : Bool} : Rw L 1 (.bl b) := ⟨rfl, rfl, by cases b <;> decide⟩
section
variable {K : PySem.W.Frag} {G : Option Addr} {c c1 c2 c3 : Nat} {te ta tb : TE} {Γ : Ctx} {α β : Type} [Py α] [DecidableEq α] [DatOf α] [Py β]
theorem ty_reprW {d : Dat} {L W : Nat} (h : Ty G c ta Γ (· = d)) (sh : Shp d) (r : Rw L W d) (h0 : 8 ≤ L) (hW : (L + 2) * W + L ≤ 16000000) : Ty G (c + 0) (tCB (rRepr K) (tCons ta tNil)) Γ (· = d.py.shown) :=
  ty_cb (ta_cons h ta_nil) fun vs B al z B' H e s Q q => by
    obtain ⟨v, rfl, hv⟩ := al.one
    refine ⟨v, d.py, rfl, DatV.dp (e.trans s.ex) hv sh.nod, r.show_, sh.nod, sh.depth, ?_, q _ _ z B' H rfl (.refl s) rfl⟩
    have h1 := PyData.shown_le L h0 d.py r.short
    have h2 : (L + 2) * d.py.weight ≤ (L + 2) * W := Nat.mul_le_mul (Nat.le_refl _) r.wt
    rw [sizeLine_eq]
    omega
theorem ty_reprG {x : α} {L W : Nat} (h : Ty G c ta Γ (· = x)) (r : Rw L W (toD x)) (h0 : 8 ≤ L := by decide) (hW : (L + 2) * W + L ≤ 16000000 := by decide) (hd : DatOf.dep α ≤ 60 := by decide) : Ty G (c + 0) (tCB (rRepr K) (tCons ta tNil)) Γ (· = (toD x).py.shown) :=
  ty_reprW h.dat (shp hd) r h0 hW
end
/-! ### calls with drawn arguments -/
section
variable {K : PySem.W.Frag} {G : Option Addr} {c c1 c2 c3 : Nat} {te ta tb : TE} {tr : TA} {tt : TT} {Γ : Ctx} {α β γ ι π : Type} [Py α] [Py β] [Py γ] {A : α → Prop} {A1 : β → Prop}
/-! a test's two ways -/
theorem ty_ixD {xs : List α} {i : Int} (d : α) (ha : Ty G c1 ta Γ (· = xs)) (hb : Ty G c2 tb Γ (· = i)) (h : 0 ≤ i ∧ i < xs.length) : Ty G (c1 + c2) (tOp (rIxL K) ta tb) Γ (· = xs.getD i.toNat d) :=
  ty_ix ha hb (by
    have lt : i.toNat < xs.length := by omega
    unfold atI ixN
    rw [if_pos h.1, if_pos h.2]
    show xs[i.toNat]? = _
    rw [List.getElem?_eq_getElem lt, List.getD_eq_getElem?_getD, List.getElem?_eq_getElem lt] <;> rfl)
/-- xs[-1] -/
theorem ty_ixLast {xs : List α} (d : α) (ha : Ty G c1 ta Γ (· = xs)) (hb : Ty G c2 tb Γ (· = (-1 : Int))) (h : 0 < xs.length) : Ty G (c1 + c2) (tOp (rIxL K) ta tb) Γ (· = xs.getD (xs.length - 1) d) :=
  ty_ix ha hb (by
    have lt : xs.length - 1 < xs.length := by omega
    unfold atI ixN
    rw [if_neg (by decide), if_pos (by omega)]
    show xs[((xs.length : Int) + -1).toNat]? = _
    rw [show ((xs.length : Int) + -1).toNat = xs.length - 1 by omega, List.getElem?_eq_getElem lt, List.getD_eq_getElem?_getD, List.getElem?_eq_getElem lt] <;> rfl)
end
/-! ### a growing list that is read: the answer does not hang on the heap -/
/-! ### objects -/
/-- what the fields of an object of a class hold -/
def ObjP (C : Addr) (fp : List (Str × VP)) : VP := fun v B => ∃ a dx fs, v = .ref a ∧ B a = some (.ins C dx fs) ∧ ∀ f P, fp.lookup f = some P → Stays P ∧ ∃ u, fs.lookup f = some u ∧ P u B
theorem ObjP.stays {C : Addr} {fp : List (Str × VP)} : Stays (ObjP C fp) := fun v B B' e ⟨a, dx, fs, h1, h2, h3⟩ => ⟨a, dx, fs, h1, e _ _ h2, fun f P h => by
  obtain ⟨st, u, l, p⟩ := h3 f P h
  exact ⟨st, u, l, st _ _ _ e p⟩⟩
/-- an object told by a value -/
class Obj' (α : Type) where
  cls : α → Addr
  fields : α → List (Str × VP)
instance (priority := 10) {α : Type} [Obj' α] : Py α := ⟨fun x v B => ObjP (Obj'.cls x) (Obj'.fields x) v B, fun _ _ _ _ e h => ObjP.stays _ _ _ e h⟩
end AP
set_option maxHeartbeats 4000000
/-! More rules: comprehensions over pairs, least items, where an item stands, targets of more names. -/
namespace AP
open PySem PySem.Spec PyProof.Rows L2 Evl
def rg1 (n : Int) : List Int := (List.range n.toNat).map fun i : Nat => (i : Int)
section
variable {K : PySem.W.Frag} {G : Option Addr} {c c0 c1 c2 c3 ct cb : Nat} {te ta tb tc : TE} {tt : TT} {tr : TA} {Γ : AP.Ctx} {α β γ δ ε : Type} [Py α] [Py β] [Py γ] [Py δ] {g : TG}
theorem filter_yes (es : List ε) (f : ε → β) : (es.filter fun _ => true).map f = es.map f := by rw [List.filter_eq_self.mpr fun _ _ => rfl]
/-- range(n) -/
theorem ty_lc1 {n : Int} {p : Int → Bool} {f : Int → β} {j : Nat} {vs : List Nat} (h : Ty G c ta Γ (· = n)) (hn : n ≤ 40000) (hj : j ∈ vs)
    (ht : ∀ x, 0 ≤ x → x < n → TyT G 0 tt ((wipeC Γ vs).set j (some (Py.is x))) (· = p x)) (he : ∀ x, 0 ≤ x → x < n → p x = true → Ty G 0 te ((wipeC Γ vs).set j (some (Py.is x))) (· = f x)) (h0 : -(2 ^ 62) ≤ n := by omega) :
    Ty G (c + 0) (tLc (iRng1 (tCons ta tNil)) (gName j) tt te vs) Γ (· = ((rg1 n).filter p).map f) := ty_lcR1 (ta_cons h ta_nil) ⟨h0, by omega⟩ (by omega) hj ht he
theorem ty_lc1M {n : Int} {f : Int → β} {j : Nat} {vs : List Nat} (h : Ty G c ta Γ (· = n)) (hn : n ≤ 40000) (hj : j ∈ vs)
    (he : ∀ x, 0 ≤ x → x < n → Ty G 0 te ((wipeC Γ vs).set j (some (Py.is x))) (· = f x)) (h0 : -(2 ^ 62) ≤ n := by omega) :
    Ty G (c + 0) (tLc (iRng1 (tCons ta tNil)) (gName j) tYes te vs) Γ (· = (rg1 n).map f) := (ty_lc1 (p := fun _ => true) h hn hj (fun _ _ _ => tt_yes) (fun x a b _ => he x a b) h0).to (filter_yes _ _)
/-! ### the least, the greatest -/
def minI : List Int → Int
  | [] => 0
  | [x] => x
  | x :: y :: r => min x (minI (y :: r))
def maxI : List Int → Int
  | [] => 0
  | [x] => x
  | x :: y :: r => max x (maxI (y :: r))
theorem minI_ok : ∀ {l : List Int}, l ≠ [] → minI l ∈ l ∧ ∀ y ∈ l, minI l ≤ y
  | [], h => absurd rfl h
  | [x], _ => ⟨List.mem_singleton_self x, fun y hy => by rw [List.mem_singleton.mp hy]; exact Int.le_refl _⟩
  | x :: y :: r, _ => by
    obtain ⟨h1, h2⟩ := minI_ok (l := y :: r) (by simp)
    have e : minI (x :: y :: r) = min x (minI (y :: r)) := rfl
    rw [e]
    refine ⟨?_, fun z hz => ?_⟩
    · by_cases h : x ≤ minI (y :: r)
      · rw [Int.min_eq_left h]; exact List.mem_cons_self
      · rw [Int.min_eq_right (by omega)]; exact List.mem_cons_of_mem _ h1
    · rcases List.mem_cons.mp hz with q | q
      · rw [q]; exact Int.min_le_left _ _
      · exact Int.le_trans (Int.min_le_right _ _) (h2 z q)
theorem maxI_ok : ∀ {l : List Int}, l ≠ [] → maxI l ∈ l ∧ ∀ y ∈ l, y ≤ maxI l
  | [], h => absurd rfl h
  | [x], _ => ⟨List.mem_singleton_self x, fun y hy => by rw [List.mem_singleton.mp hy]; exact Int.le_refl _⟩
  | x :: y :: r, _ => by
    obtain ⟨h1, h2⟩ := maxI_ok (l := y :: r) (by simp)
    have e : maxI (x :: y :: r) = max x (maxI (y :: r)) := rfl
    rw [e]
    refine ⟨?_, fun z hz => ?_⟩
    · by_cases h : maxI (y :: r) ≤ x
      · rw [Int.max_eq_left h]; exact List.mem_cons_self
      · rw [Int.max_eq_right (by omega)]; exact List.mem_cons_of_mem _ h1
    · rcases List.mem_cons.mp hz with q | q
      · rw [q]; exact Int.le_max_left _ _
      · exact Int.le_trans (h2 z q) (Int.le_max_right _ _)
theorem ty_minD {ns : List Int} (h : Ty G c ta Γ (· = ns)) (h0 : ns ≠ []) : Ty G (c + 0) (tCB (rMin K) (tCons ta tNil)) Γ (· = minI ns) :=
  (ty_min h (List.length_pos_iff.mpr h0)).imp fun m ⟨a, b⟩ => by
    obtain ⟨h1, h2⟩ := minI_ok h0
    have := b _ h1
    have := h2 _ a
    omega
theorem ty_maxD {ns : List Int} (h : Ty G c ta Γ (· = ns)) (h0 : ns ≠ []) : Ty G (c + 0) (tCB (rMax K) (tCons ta tNil)) Γ (· = maxI ns) :=
  (ty_max h (List.length_pos_iff.mpr h0)).imp fun m ⟨a, b⟩ => by
    obtain ⟨h1, h2⟩ := maxI_ok h0
    have := b _ h1
    have := h2 _ a
    omega
end
/-! ### statements -/
section
variable {K : PySem.W.Frag} {G : Option Addr} {c c0 c1 c2 c3 : Nat} {te ta tb tc : TE} {tt : TT} {Γ : AP.Ctx} {α β γ : Type} [Py α] [Py β] [Py γ] {A : α → Prop} {A1 : β → Prop} {A2 : γ → Prop} {B B' H B0 H0 : Hp} {σ : L2.St} {z z0 : Int} {D : Ends} {tz : TS}
/-- a, b = a pair -/
theorem q_unp {i j : Nat} {A : α × β → Prop} (s0 : At G z0 B0 H0) (n : Nx G c0 z0 B0 H0 z B H) (en : Slo B σ Γ) (h : Ty G c te Γ A) (hz : z0 + (c0 + c) ≤ 2 ^ 50)
    (k : ∀ x z' B' H' σ', A x → Nx G c z B H z' B' H' → Nx G (c0 + c) z0 B0 H0 z' B' H' → Slo B' σ' ((Γ.set i (some (Py.is x.1))).set j (some (Py.is x.2))) → D.nx σ' H') :
    tAsg te (gTup K 2 (gCons (gName i) (gCons (gName j) gNil))) D σ H :=
  h z B σ H en n.at_ (by have := n.hi; omega) _ fun x v z' B' H' ax n' hv => by
    obtain ⟨p, a, b, rfl, h1, h2, h3⟩ := hv
    exact ⟨p, [a, b], rfl, st_of (n'.at_.ex _ _ h1), rfl, a, _, rfl, b, _, rfl, rfl, k x z' B' H' _ ax n' (n.trans s0 n') (((en.up n'.up).put h2).put h3)⟩
theorem q_unpS {i j : Nat} {A : α × β → Prop} (s0 : At G z0 B0 H0) (n : Nx G c0 z0 B0 H0 z B H) (en : Slo B σ Γ) (h : Ty G c te Γ A) (hz : z0 + (c0 + c) ≤ 2 ^ 50)
    (k : ∀ x z' B' H' σ', A x → Nx G c z B H z' B' H' → Nx G (c0 + c) z0 B0 H0 z' B' H' → Slo B' σ' ((Γ.set i (some (Py.is x.1))).set j (some (Py.is x.2))) → tz D σ' H') :
    tSeq (tAsg te (gTup K 2 (gCons (gName i) (gCons (gName j) gNil)))) tz D σ H := q_unp (D := { D with nx := tz D }) s0 n en h hz k
end
end AP
set_option maxHeartbeats 4000000
/-! Statements as the generator writes them. -/
namespace AP
open PySem PySem.Spec PyProof.Rows L2 Evl
section
variable {K : PySem.W.Frag} {G : Option Addr} {c c0 c1 c2 c3 : Nat} {te ta tb tc tl : TE} {tt : TT} {t t1 t2 : TS} {tr : TA} {Γ : AP.Ctx} {α β γ : Type} [Py α] [Py β] [Py γ] {A : α → Prop} {B B' H B0 H0 : Hp} {σ : L2.St} {z z0 : Int} {D : Ends} {tz : TS} {b : Bool}
theorem q_ite (s0 : At G z0 B0 H0) (n : Nx G c0 z0 B0 H0 z B H) (en : Slo B σ Γ) (h : TyT G c tt Γ (· = b)) (hz : z0 + (c0 + c) ≤ 2 ^ 50)
    (k1 : b = true → ∀ z' B' H', Nx G c z B H z' B' H' → Nx G (c0 + c) z0 B0 H0 z' B' H' → Slo B' σ Γ → t1 D σ H')
    (k2 : b = false → ∀ z' B' H', Nx G c z B H z' B' H' → Nx G (c0 + c) z0 B0 H0 z' B' H' → Slo B' σ Γ → t2 D σ H') : tIfS tt t1 t2 D σ H :=
  q_if s0 n en h hz (fun e => k1 e.symm) (fun e => k2 e.symm)
theorem q_iteS (s0 : At G z0 B0 H0) (n : Nx G c0 z0 B0 H0 z B H) (en : Slo B σ Γ) (h : TyT G c tt Γ (· = b)) (hz : z0 + (c0 + c) ≤ 2 ^ 50)
    (k1 : b = true → ∀ z' B' H', Nx G c z B H z' B' H' → Nx G (c0 + c) z0 B0 H0 z' B' H' → Slo B' σ Γ → t1 { D with nx := tz D } σ H')
    (k2 : b = false → ∀ z' B' H', Nx G c z B H z' B' H' → Nx G (c0 + c) z0 B0 H0 z' B' H' → Slo B' σ Γ → t2 { D with nx := tz D } σ H') : tSeq (tIfS tt t1 t2) tz D σ H :=
  q_ite (D := { D with nx := tz D }) s0 n en h hz k1 k2
theorem keep2 {B H : Hp} {l : Addr} {us : List V} (nl : B l = none) (hl : H l = some (.lst us)) (h : ∀ a o, B' a = some o → B a = some o ∨ NewT H a o) : B' l = none := by
  cases e : B' l with
  | none => rfl
  | some u =>
    rcases h l u e with h | h
    · rw [nl] at h; cases h
    · exact (h.no hl).elim
theorem q_forX {wi : TI} {g : TG} {js : List Nat} {cb : Nat} {An : Nat → Prop} {F : Nat → AP.Ctx → AP.Ctx} (s0 : At G z0 B0 H0) (n : Nx G c0 z0 B0 H0 z B H) (en : Slo B σ Γ) (h : TyI G c wi g Γ js An F) (hz : z0 + (c0 + c) ≤ 2 ^ 50)
    (Inv : Nat → AP.Ctx → Hp → Hp → Prop)
    (h0 : ∀ z' B' H', Nx G c z B H z' B' H' → Slo B' σ Γ → Inv 0 Γ B' H')
    (up : ∀ i Γ B H H', Inv i Γ B H → Ex H H' → Inv i Γ B H')
    (hs : ∀ m, An m → ∀ Bs i Γ' z' B' H' σ', i < m → Inv i Γ' B' H' → Ex Bs B' → Nx G (c0 + c + i * cb) z0 B0 H0 z' B' H' → Slo B' σ' (F i Γ') →
      t { D with nx := Lw G z0 B0 H0 Bs (c0 + c) cb Inv (i + 1), ct := Lw G z0 B0 H0 Bs (c0 + c) cb Inv (i + 1), bk := D.nx } σ' H')
    (hd : ∀ m, An m → ∀ Γ' z' B' H' σ', Inv m Γ' B' H' → Ex B B' → Nx G (c0 + c + m * cb) z0 B0 H0 z' B' H' → Slo B' σ' Γ' → D.nx σ' H') : tFor wi g t D σ H := by
  refine h z B σ H en n.at_ (by have := n.hi; omega) _ fun J m z1 B1 H1 am n1 src => ?_
  refine ⟨fun i k σ H => k + i = m ∧ Lw G z0 B0 H0 B1 (c0 + c) cb Inv i σ H, ⟨m, by omega, Γ, z1, B1, h0 z1 B1 H1 n1 (en.up n1.up), Ex.refl _, (n.trans s0 n1).le (by omega), en.up n1.up⟩, ?_⟩
  rintro i k σ2 H2 ⟨e, Γ2, z2, B2, i2, x2, n2, en2⟩
  rcases Nat.lt_or_ge i m with lt | ge
  · refine .inr ⟨src.go i lt H2 (x2.trans n2.at_.ex), Lw G z0 B0 H0 B1 (c0 + c) cb Inv (i + 1), fun σ' H' p => ⟨k - 1, by omega, by omega, p⟩, fun x H3 y => ?_⟩
    obtain ⟨e3, fin⟩ := src.yld i lt x H2 H3 (x2.trans n2.at_.ex) y
    refine fin σ2 Γ2 B2 en2 x2 n2.at_.ex _ fun σ' en3 _ => ?_
    exact hs m am B1 i Γ2 z2 B2 H3 σ' lt (up _ _ _ _ _ i2 e3) x2 ((n2.trans s0 (Nx.more n2.at_ e3)).le (by omega)) en3
  · cases (show i = m by omega)
    exact .inl ⟨src.stop H2 (x2.trans n2.at_.ex), hd m am Γ2 z2 B2 H2 σ2 i2 (n1.up.trans x2) n2 en2⟩
theorem q_for1 {j cb : Nat} {m : Int} (s0 : At G z0 B0 H0) (n : Nx G c0 z0 B0 H0 z B H) (en : Slo B σ Γ) (h : Ty G c te Γ (· = m)) (hm : -(2 ^ 62) ≤ m ∧ m < 2 ^ 62) (hz : z0 + (c0 + c) ≤ 2 ^ 50)
    (Inv : Nat → AP.Ctx → Hp → Hp → Prop) (h0 : ∀ z' B' H', Nx G c z B H z' B' H' → Slo B' σ Γ → Inv 0 Γ B' H') (up : ∀ i Γ B H H', Inv i Γ B H → Ex H H' → Inv i Γ B H')
    (hs : ∀ Bs (i : Nat) Γ' z' B' H' σ', (i : Int) < m → Inv i Γ' B' H' → Ex Bs B' → Nx G (c0 + c + i * cb) z0 B0 H0 z' B' H' → Slo B' σ' (Γ'.set j (some (Py.is (i : Int)))) →
      t { D with nx := Lw G z0 B0 H0 Bs (c0 + c) cb Inv (i + 1), ct := Lw G z0 B0 H0 Bs (c0 + c) cb Inv (i + 1), bk := D.nx } σ' H')
    (hd : ∀ Γ' z' B' H' σ', Inv m.toNat Γ' B' H' → Ex B B' → Nx G (c0 + c + m.toNat * cb) z0 B0 H0 z' B' H' → Slo B' σ' Γ' → D.nx σ' H') : tFor (iRng1 (tCons te tNil)) (gName j) t D σ H :=
  q_forX s0 n en (ti_rng1 (ta_cons h ta_nil) hm) hz Inv h0 up (fun m' em Bs i Γ' z' B' H' σ' hi inv eb n en => hs Bs i Γ' z' B' H' σ' (by subst em; omega) inv eb n en) fun m' em Γ' z' B' H' σ' inv eb2 n en => by
    subst em
    exact hd Γ' z' B' H' σ' inv eb2 n en
theorem q_for1S {j cb : Nat} {m : Int} (s0 : At G z0 B0 H0) (n : Nx G c0 z0 B0 H0 z B H) (en : Slo B σ Γ) (h : Ty G c te Γ (· = m)) (hm : -(2 ^ 62) ≤ m ∧ m < 2 ^ 62) (hz : z0 + (c0 + c) ≤ 2 ^ 50)
    (Inv : Nat → AP.Ctx → Hp → Hp → Prop) (h0 : ∀ z' B' H', Nx G c z B H z' B' H' → Slo B' σ Γ → Inv 0 Γ B' H') (up : ∀ i Γ B H H', Inv i Γ B H → Ex H H' → Inv i Γ B H')
    (hs : ∀ Bs (i : Nat) Γ' z' B' H' σ', (i : Int) < m → Inv i Γ' B' H' → Ex Bs B' → Nx G (c0 + c + i * cb) z0 B0 H0 z' B' H' → Slo B' σ' (Γ'.set j (some (Py.is (i : Int)))) →
      t { D with nx := Lw G z0 B0 H0 Bs (c0 + c) cb Inv (i + 1), ct := Lw G z0 B0 H0 Bs (c0 + c) cb Inv (i + 1), bk := tz D } σ' H')
    (hd : ∀ Γ' z' B' H' σ', Inv m.toNat Γ' B' H' → Ex B B' → Nx G (c0 + c + m.toNat * cb) z0 B0 H0 z' B' H' → Slo B' σ' Γ' → tz D σ' H') : tSeq (tFor (iRng1 (tCons te tNil)) (gName j) t) tz D σ H := q_for1 (D := { D with nx := tz D }) s0 n en h hm hz Inv h0 up hs hd
theorem q_for2 {j cb : Nat} {a m : Int} (s0 : At G z0 B0 H0) (n : Nx G c0 z0 B0 H0 z B H) (en : Slo B σ Γ) (h' : Ty G c1 ta Γ (· = a)) (h : Ty G c2 te Γ (· = m)) (hm : -(2 ^ 62) ≤ a ∧ a < 2 ^ 62 ∧ -(2 ^ 62) ≤ m ∧ m < 2 ^ 62) (hz : z0 + (c0 + (c1 + (c2 + 0))) ≤ 2 ^ 50)
    (Inv : Nat → AP.Ctx → Hp → Hp → Prop) (h0 : ∀ z' B' H', Nx G (c1 + (c2 + 0)) z B H z' B' H' → Slo B' σ Γ → Inv 0 Γ B' H') (up : ∀ i Γ B H H', Inv i Γ B H → Ex H H' → Inv i Γ B H')
    (hs : ∀ Bs (i : Nat) Γ' z' B' H' σ', a + (i : Int) < m → Inv i Γ' B' H' → Ex Bs B' → Nx G (c0 + (c1 + (c2 + 0)) + i * cb) z0 B0 H0 z' B' H' → Slo B' σ' (Γ'.set j (some (Py.is (a + (i : Int))))) →
      t { D with nx := Lw G z0 B0 H0 Bs (c0 + (c1 + (c2 + 0))) cb Inv (i + 1), ct := Lw G z0 B0 H0 Bs (c0 + (c1 + (c2 + 0))) cb Inv (i + 1), bk := D.nx } σ' H')
    (hd : ∀ Γ' z' B' H' σ', Inv (m - a).toNat Γ' B' H' → Ex B B' → Nx G (c0 + (c1 + (c2 + 0)) + (m - a).toNat * cb) z0 B0 H0 z' B' H' → Slo B' σ' Γ' → D.nx σ' H') : tFor (iRng2 (tCons ta (tCons te tNil))) (gName j) t D σ H :=
  q_forX s0 n en (ti_rng2 (ta_cons h' (ta_cons h ta_nil)) ⟨hm.1, hm.2.1⟩ ⟨hm.2.2.1, hm.2.2.2⟩) hz Inv h0 up (fun m' em Bs i Γ' z' B' H' σ' hi inv eb n en => hs Bs i Γ' z' B' H' σ' (by subst em; omega) inv eb n en) fun m' em Γ' z' B' H' σ' inv eb2 n en => by
    subst em
    exact hd Γ' z' B' H' σ' inv eb2 n en
theorem q_for2S {j cb : Nat} {a m : Int} (s0 : At G z0 B0 H0) (n : Nx G c0 z0 B0 H0 z B H) (en : Slo B σ Γ) (h' : Ty G c1 ta Γ (· = a)) (h : Ty G c2 te Γ (· = m)) (hm : -(2 ^ 62) ≤ a ∧ a < 2 ^ 62 ∧ -(2 ^ 62) ≤ m ∧ m < 2 ^ 62) (hz : z0 + (c0 + (c1 + (c2 + 0))) ≤ 2 ^ 50)
    (Inv : Nat → AP.Ctx → Hp → Hp → Prop) (h0 : ∀ z' B' H', Nx G (c1 + (c2 + 0)) z B H z' B' H' → Slo B' σ Γ → Inv 0 Γ B' H') (up : ∀ i Γ B H H', Inv i Γ B H → Ex H H' → Inv i Γ B H')
    (hs : ∀ Bs (i : Nat) Γ' z' B' H' σ', a + (i : Int) < m → Inv i Γ' B' H' → Ex Bs B' → Nx G (c0 + (c1 + (c2 + 0)) + i * cb) z0 B0 H0 z' B' H' → Slo B' σ' (Γ'.set j (some (Py.is (a + (i : Int))))) →
      t { D with nx := Lw G z0 B0 H0 Bs (c0 + (c1 + (c2 + 0))) cb Inv (i + 1), ct := Lw G z0 B0 H0 Bs (c0 + (c1 + (c2 + 0))) cb Inv (i + 1), bk := tz D } σ' H')
    (hd : ∀ Γ' z' B' H' σ', Inv (m - a).toNat Γ' B' H' → Ex B B' → Nx G (c0 + (c1 + (c2 + 0)) + (m - a).toNat * cb) z0 B0 H0 z' B' H' → Slo B' σ' Γ' → tz D σ' H') : tSeq (tFor (iRng2 (tCons ta (tCons te tNil))) (gName j) t) tz D σ H := q_for2 (D := { D with nx := tz D }) s0 n en h' h hm hz Inv h0 up hs hd
theorem q_forL {j cb : Nat} {xs : List β} (s0 : At G z0 B0 H0) (n : Nx G c0 z0 B0 H0 z B H) (en : Slo B σ Γ) (h : Ty G c te Γ (· = xs)) (hz : z0 + (c0 + c) ≤ 2 ^ 50)
    (Inv : Nat → AP.Ctx → Hp → Hp → Prop) (h0 : ∀ z' B' H', Nx G c z B H z' B' H' → Slo B' σ Γ → Inv 0 Γ B' H') (up : ∀ i Γ B H H', Inv i Γ B H → Ex H H' → Inv i Γ B H')
    (hs : ∀ Bs (i : Nat) x Γ' z' B' H' σ', xs[i]? = some x → Inv i Γ' B' H' → Ex Bs B' → Nx G (c0 + c + i * cb) z0 B0 H0 z' B' H' → Slo B' σ' (Γ'.set j (some (Py.is x))) →
      t { D with nx := Lw G z0 B0 H0 Bs (c0 + c) cb Inv (i + 1), ct := Lw G z0 B0 H0 Bs (c0 + c) cb Inv (i + 1), bk := D.nx } σ' H')
    (hd : ∀ Γ' z' B' H' σ', Inv xs.length Γ' B' H' → Ex B B' → Nx G (c0 + c + xs.length * cb) z0 B0 H0 z' B' H' → Slo B' σ' Γ' → D.nx σ' H') : tFor (iList K te) (gName j) t D σ H :=
  q_forX s0 n en (ti_list h) hz Inv h0 up (fun m' em Bs i Γ' z' B' H' σ' hi inv eb n en => by
    subst em
    have e := List.getElem?_eq_getElem hi
    have en : Slo B' σ' (Γ'.set j (some (itm xs i))) := en
    rw [itm_eq e] at en
    exact hs Bs i _ Γ' z' B' H' σ' e inv eb n en) fun m' em Γ' z' B' H' σ' inv eb2 n en => by
    subst em
    exact hd Γ' z' B' H' σ' inv eb2 n en
theorem q_forLS {j cb : Nat} {xs : List β} (s0 : At G z0 B0 H0) (n : Nx G c0 z0 B0 H0 z B H) (en : Slo B σ Γ) (h : Ty G c te Γ (· = xs)) (hz : z0 + (c0 + c) ≤ 2 ^ 50)
    (Inv : Nat → AP.Ctx → Hp → Hp → Prop) (h0 : ∀ z' B' H', Nx G c z B H z' B' H' → Slo B' σ Γ → Inv 0 Γ B' H') (up : ∀ i Γ B H H', Inv i Γ B H → Ex H H' → Inv i Γ B H')
    (hs : ∀ Bs (i : Nat) x Γ' z' B' H' σ', xs[i]? = some x → Inv i Γ' B' H' → Ex Bs B' → Nx G (c0 + c + i * cb) z0 B0 H0 z' B' H' → Slo B' σ' (Γ'.set j (some (Py.is x))) →
      t { D with nx := Lw G z0 B0 H0 Bs (c0 + c) cb Inv (i + 1), ct := Lw G z0 B0 H0 Bs (c0 + c) cb Inv (i + 1), bk := tz D } σ' H')
    (hd : ∀ Γ' z' B' H' σ', Inv xs.length Γ' B' H' → Ex B B' → Nx G (c0 + c + xs.length * cb) z0 B0 H0 z' B' H' → Slo B' σ' Γ' → tz D σ' H') : tSeq (tFor (iList K te) (gName j) t) tz D σ H := q_forL (D := { D with nx := tz D }) s0 n en h hz Inv h0 up hs hd
end
theorem pi_listA {X : Cx} {K : PySem.W.Frag} {tg l : Expr} {tl : TE} (hl : PE X l tl) (hK : X.K = K := by rfl) : PI X tg l (iList K tl) := by
  subst hK
  exact pi_list hl
end AP
set_option maxHeartbeats 4000000
/-! Objects made by a class: what __init__ promises, what the class gives. -/
namespace AP
open PySem PySem.Spec PyProof.Rows L2 Evl
end AP
set_option maxHeartbeats 4000000
/-! The numbers of places, by halves. -/
namespace AP
/-- a run that always takes one of the least -/
inductive Gr : KC → KC → Prop
  | nil : Gr [] []
  | cons {kvs l : KC} {x : Int × Int} : x ∈ kvs → (∀ y ∈ kvs, x.2 ≤ y.2) → Gr (behind kvs x.1) l → Gr kvs (x :: l)
theorem orun_gr : ∀ (n : Nat) (kvs : KC), kvs.length = n → (kvs.map (·.1)).Nodup → Gr kvs (orun n kvs)
  | 0, [], _, _ => .nil
  | n + 1, kvs, hl, nd => by
    have ne : kvs ≠ [] := fun e => by rw [e] at hl; cases hl
    obtain ⟨x, h1, h2, h3, _⟩ := pick_some ne
    have bl := behind_len nd (List.mem_map.mpr ⟨x, h2, rfl⟩)
    rw [← hl, orun_cons nd h1 h2]
    exact .cons h2 h3 (orun_gr _ _ rfl (behind_nodup nd))
theorem Gr.len {kvs l : KC} (h : Gr kvs l) (nd : (kvs.map (·.1)).Nodup) : l.length = kvs.length := by
  induction h with
  | nil => rfl
  | cons h1 h2 _ ih =>
    rw [List.length_cons, ih (behind_nodup nd)]
    exact behind_len nd (List.mem_map.mpr ⟨_, h1, rfl⟩)
theorem behind_mem {kvs : KC} {t : Int} {y : Int × Int} (h : y ∈ behind kvs t) : ∃ z ∈ kvs, y.1 = z.1 ∧ z.2 ≤ y.2 := by
  obtain ⟨z, hz, rfl⟩ := List.mem_map.mp h
  exact ⟨z, (List.mem_filter.mp hz).1, rfl, by have := twos_nonneg (z.1 - t); show z.2 ≤ z.2 + twos (z.1 - t); omega⟩
theorem Gr.ge {kvs l : KC} (h : Gr kvs l) : ∀ {m : Int}, (∀ y ∈ kvs, m ≤ y.2) → ∀ y ∈ l, m ≤ y.2 := by
  induction h with
  | nil => intro m _ y hy; cases hy
  | cons h1 h2 _ ih =>
    intro m hm y hy
    rcases List.mem_cons.mp hy with rfl | hy
    · exact hm _ h1
    · refine ih (fun w hw => ?_) y hy
      obtain ⟨z, hz, _, le⟩ := behind_mem hw
      exact Int.le_trans (hm z hz) le
/-- the numbers never fall -/
theorem Gr.asc {kvs l : KC} (h : Gr kvs l) : (l.map (·.2)).Pairwise (· ≤ ·) := by
  induction h with
  | nil => exact .nil
  | cons h1 h2 h3 ih =>
    rw [List.map_cons]
    refine .cons (fun b hb => ?_) ih
    obtain ⟨y, hy, rfl⟩ := List.mem_map.mp hb
    refine h3.ge (fun w hw => ?_) y hy
    obtain ⟨z, hz, _, le⟩ := behind_mem hw
    exact Int.le_trans (h2 z hz) le
/-- the places of one parity, halved, t of them taken already -/
def half (r t : Int) (kvs : KC) : KC := (kvs.filter fun p => decide (p.1 % 2 = r)).map fun p => (p.1 / 2, p.2 - t)
def up : Int → List Int → List Int
  | _, [] => []
  | t, x :: r => (x + t) :: up (t + 1) r
theorem half_inj {a b : Int} (h : a % 2 = b % 2) (e : a / 2 = b / 2) : a = b := by omega
theorem twos_same {a b : Int} (h : a % 2 = b % 2) (ne : a ≠ b) : twos (a - b) = 1 + twos (a / 2 - b / 2) := by
  rw [twos_even (by omega) (by omega), show (a - b) / 2 = a / 2 - b / 2 by omega]
  omega
theorem twos_other {a b : Int} (h : a % 2 ≠ b % 2) : twos (a - b) = 0 := twos_odd (by omega)
/-- behind one of the same parity -/
theorem half_behind_same {kvs : KC} {r t : Int} {a : Int} (ha : a % 2 = r) : half r (t + 1) (behind kvs a) = behind (half r t kvs) (a / 2) := by
  unfold half behind
  rw [List.filter_map, List.filter_map, List.map_map, List.map_map, List.filter_filter, List.filter_filter]
  induction kvs with
  | nil => rfl
  | cons p kvs ih =>
    by_cases hp : p.1 % 2 = r
    · by_cases e : p.1 = a
      · rw [List.filter_cons, List.filter_cons, if_neg (by simp [e]), if_neg (by simp [e])]
        exact ih
      · have e2 : ¬ p.1 / 2 = a / 2 := fun q => e (half_inj (by omega) q)
        rw [List.filter_cons, List.filter_cons, if_pos (by simp [e, hp]), if_pos (by simp [e2, hp]), List.map_cons, List.map_cons, ih]
        congr 1
        show ((p.1 / 2, p.2 + twos (p.1 - a) - (t + 1)) : Int × Int) = (p.1 / 2, p.2 - t + twos (p.1 / 2 - a / 2))
        rw [twos_same (by omega) e]
        congr 1
        omega
    · rw [List.filter_cons, List.filter_cons, if_neg (by simp [hp]), if_neg (by simp [hp])]
      exact ih
/-- behind one of the other parity -/
theorem half_behind_other {kvs : KC} {r t : Int} {a : Int} (ha : a % 2 ≠ r) : half r t (behind kvs a) = half r t kvs := by
  unfold half behind
  rw [List.filter_map, List.map_map, List.filter_filter]
  induction kvs with
  | nil => rfl
  | cons p kvs ih =>
    by_cases hp : p.1 % 2 = r
    · have e : ¬ p.1 = a := fun q => ha (by rw [← q]; exact hp)
      rw [List.filter_cons, List.filter_cons, if_pos (by simp [e, hp]), if_pos (by simp [hp]), List.map_cons, List.map_cons, ih]
      congr 1
      show ((p.1 / 2, p.2 + twos (p.1 - a) - t) : Int × Int) = (p.1 / 2, p.2 - t)
      rw [twos_other (by omega), Int.add_zero]
    · rw [List.filter_cons, List.filter_cons, if_neg (by simp [hp]), if_neg (by simp [hp])]
      exact ih
/-- a run is a run of either half, one among the other -/
theorem Gr.halves {kvs l : KC} (h : Gr kvs l) : ∀ t u : Int, ∃ lE lO, Gr (half 0 t kvs) lE ∧ Gr (half 1 u kvs) lO ∧ (l.map (·.2)).Perm (up t (lE.map (·.2)) ++ up u (lO.map (·.2))) := by
  induction h with
  | nil => exact fun t u => ⟨[], [], .nil, .nil, .nil⟩
  | @cons kvs l x h1 h2 h3 ih =>
    intro t u
    rcases Int.emod_two_eq x.1 with e | e
    · obtain ⟨lE, lO, g1, g2, p⟩ := ih (t + 1) u
      rw [half_behind_same e] at g1
      rw [half_behind_other (by omega)] at g2
      refine ⟨(x.1 / 2, x.2 - t) :: lE, lO, .cons (List.mem_map.mpr ⟨x, List.mem_filter.mpr ⟨h1, by simp [e]⟩, rfl⟩) (fun y hy => ?_) g1, g2, ?_⟩
      · obtain ⟨z, hz, rfl⟩ := List.mem_map.mp hy
        have := h2 z (List.mem_filter.mp hz).1
        show x.2 - t ≤ z.2 - t
        omega
      · rw [List.map_cons, List.map_cons]
        show (x.2 :: l.map (·.2)).Perm ((x.2 - t + t) :: up (t + 1) (lE.map (·.2)) ++ up u (lO.map (·.2)))
        rw [show x.2 - t + t = x.2 by omega]
        exact p.cons x.2
    · obtain ⟨lE, lO, g1, g2, p⟩ := ih t (u + 1)
      rw [half_behind_other (by omega)] at g1
      rw [half_behind_same e] at g2
      refine ⟨lE, (x.1 / 2, x.2 - u) :: lO, g1, .cons (List.mem_map.mpr ⟨x, List.mem_filter.mpr ⟨h1, by simp [e]⟩, rfl⟩) (fun y hy => ?_) g2, ?_⟩
      · obtain ⟨z, hz, rfl⟩ := List.mem_map.mp hy
        have := h2 z (List.mem_filter.mp hz).1
        show x.2 - u ≤ z.2 - u
        omega
      · rw [List.map_cons, List.map_cons]
        show (x.2 :: l.map (·.2)).Perm (up t (lE.map (·.2)) ++ (x.2 - u + u) :: up (u + 1) (lO.map (·.2)))
        rw [show x.2 - u + u = x.2 by omega]
        exact (p.cons x.2).trans List.perm_middle.symm
def zeros (ps : List Int) : KC := ps.map fun p => (p, 0)
def evens (ps : List Int) : List Int := (ps.filter fun p => decide (p % 2 = 0)).map (· / 2)
def odds (ps : List Int) : List Int := (ps.filter fun p => decide (p % 2 = 1)).map (· / 2)
theorem half_zeros0 (ps : List Int) : half 0 0 (zeros ps) = zeros (evens ps) := by
  unfold half zeros evens
  rw [List.filter_map, List.map_map, List.map_map]
  rfl
theorem half_zeros1 (ps : List Int) : half 1 0 (zeros ps) = zeros (odds ps) := by
  unfold half zeros odds
  rw [List.filter_map, List.map_map, List.map_map]
  rfl
/-- the numbers, by halves -/
def numR : Nat → List Int → List Int
  | 0, ps => ps.map fun _ => 0
  | w + 1, ps => (up 0 (numR w (evens ps)) ++ up 0 (numR w (odds ps))).mergeSort (fun a b => decide (a ≤ b))
theorem sort_asc (l : List Int) : (l.mergeSort fun a b => decide (a ≤ b)).Pairwise (· ≤ ·) := by
  have := List.pairwise_mergeSort (le := fun a b : Int => decide (a ≤ b)) (fun a b c h1 h2 => by simp at *; omega) (fun a b => by simp; omega) l
  exact this.imp fun h => by simpa using h
theorem asc_unique : ∀ {l m : List Int}, l.Pairwise (· ≤ ·) → m.Pairwise (· ≤ ·) → l.Perm m → l = m
  | [], m, _, _, p => by rw [List.nil_perm.mp p]
  | a :: l, [], _, _, p => by cases List.perm_nil.mp p
  | a :: l, b :: m, h1, h2, p => by
    have h1' := List.pairwise_cons.mp h1
    have h2' := List.pairwise_cons.mp h2
    have ab : a = b := by
      have ha : a ∈ b :: m := p.mem_iff.mp List.mem_cons_self
      have hb : b ∈ a :: l := p.mem_iff.mpr List.mem_cons_self
      rcases List.mem_cons.mp ha with e | ha
      · exact e
      · rcases List.mem_cons.mp hb with e | hb
        · exact e.symm
        · have := h1'.1 b hb
          have := h2'.1 a ha
          omega
    subst ab
    rw [asc_unique h1'.2 h2'.2 ((List.perm_cons a).mp p)]
theorem evens_nd {ps : List Int} (nd : ps.Nodup) : (evens ps).Nodup := by
  unfold evens
  refine List.Pairwise.map _ (R := fun a b : Int => a ≠ b ∧ a % 2 = 0 ∧ b % 2 = 0) (fun a b h e => ?_) ?_
  · exact h.1 (half_inj (by omega) e)
  · refine List.Pairwise.filter _ ?_ |>.imp_of_mem fun {a b} ha hb h => ⟨h, by simpa using (List.mem_filter.mp ha).2, by simpa using (List.mem_filter.mp hb).2⟩
    exact nd
theorem odds_nd {ps : List Int} (nd : ps.Nodup) : (odds ps).Nodup := by
  unfold odds
  refine List.Pairwise.map _ (R := fun a b : Int => a ≠ b ∧ a % 2 = 1 ∧ b % 2 = 1) (fun a b h e => ?_) ?_
  · exact h.1 (half_inj (by omega) e)
  · refine List.Pairwise.filter _ ?_ |>.imp_of_mem fun {a b} ha hb h => ⟨h, by simpa using (List.mem_filter.mp ha).2, by simpa using (List.mem_filter.mp hb).2⟩
    exact nd
def Within (w : Nat) (ps : List Int) : Prop := ∀ p ∈ ps, 0 ≤ p ∧ p < 2 ^ w
theorem Within.evens {w : Nat} {ps : List Int} (h : Within (w + 1) ps) : Within w (evens ps) := fun p hp => by
  obtain ⟨q, hq, rfl⟩ := List.mem_map.mp hp
  have := h q (List.mem_filter.mp hq).1
  rw [Int.pow_succ] at this
  omega
theorem Within.odds {w : Nat} {ps : List Int} (h : Within (w + 1) ps) : Within w (odds ps) := fun p hp => by
  obtain ⟨q, hq, rfl⟩ := List.mem_map.mp hp
  have := h q (List.mem_filter.mp hq).1
  rw [Int.pow_succ] at this
  omega
theorem zeros_keys (ps : List Int) : (zeros ps).map (·.1) = ps := by
  unfold zeros
  rw [List.map_map]
  exact List.map_id _
/-- whichever of the least is taken: the numbers are those told by halves -/
theorem gr_num : ∀ (w : Nat) {ps : List Int} {l : KC}, ps.Nodup → Within w ps → Gr (zeros ps) l → l.map (·.2) = numR w ps
  | 0, ps, l, nd, hw, h => by
    have one : ps.length ≤ 1 := by
      match ps, nd, hw with
      | [], _, _ => exact Nat.zero_le _
      | [_], _, _ => exact Nat.le_refl _
      | a :: b :: r, nd, hw =>
        have ha := hw a (by simp)
        have hb := hw b (by simp)
        have ne : a ≠ b := (List.pairwise_cons.mp nd).1 b (by simp)
        simp at ha hb
        omega
    match ps, one, h with
    | [], _, h =>
      cases h with
      | nil => rfl
      | cons h1 _ _ => cases h1
    | [a], _, h =>
      cases h with
      | cons h1 _ h3 =>
        have e : _ = (a, (0 : Int)) := List.mem_singleton.mp h1
        subst e
        have : behind (zeros [a]) a = [] := by
          unfold behind zeros
          simp
        rw [this] at h3
        cases h3 with
        | nil => rfl
        | cons h1 _ _ => cases h1
  | w + 1, ps, l, nd, hw, h => by
    obtain ⟨lE, lO, g1, g2, p⟩ := h.halves 0 0
    rw [half_zeros0] at g1
    rw [half_zeros1] at g2
    rw [gr_num w (evens_nd nd) hw.evens g1, gr_num w (odds_nd nd) hw.odds g2] at p
    exact asc_unique h.asc (sort_asc _) (p.trans (List.mergeSort_perm _ _).symm)
theorem run0_gr {ps : List Int} (nd : ps.Nodup) : Gr (zeros ps) (run0 ps) := by
  unfold run0
  have := orun_gr ps.length (zeros ps) (by unfold zeros; rw [List.length_map]) (by rw [zeros_keys]; exact nd)
  exact this
theorem numbers_num {w : Nat} {ps : List Int} (nd : ps.Nodup) (hw : Within w ps) : numbersOf ps = numR w ps := gr_num w nd hw (run0_gr nd)
theorem numbers_len {ps : List Int} (nd : ps.Nodup) : (numbersOf ps).length = ps.length := by
  unfold numbersOf
  rw [List.length_map, (run0_gr nd).len (by rw [zeros_keys]; exact nd)]
  unfold zeros
  rw [List.length_map]
theorem numbers_asc {ps : List Int} (nd : ps.Nodup) : (numbersOf ps).Pairwise (· ≤ ·) := (run0_gr nd).asc
end AP
set_option maxHeartbeats 4000000
/-! The least twos of all differences: that of the first numbers. -/
namespace AP
/-- the twos of the differences to one -/
def twosTo (x : Int) : List Int → Int
  | [] => 0
  | y :: r => twos (x - y) + twosTo x r
/-- the twos of all differences -/
def pairs : List Int → Int
  | [] => 0
  | x :: r => twosTo x r + pairs r
theorem mod_two (x : Int) : x % 2 = 0 ∨ x % 2 = 1 := by omega
theorem twos_sub (a b : Int) : twos (a - b) = twos (b - a) := by rw [← twos_neg, Int.neg_sub]
theorem twosTo_nonneg (x : Int) : ∀ l, 0 ≤ twosTo x l
  | [] => Int.le_refl _
  | y :: r => by have := twosTo_nonneg x r; have := twos_nonneg (x - y); unfold twosTo; omega
theorem twosTo_snoc (x a : Int) : ∀ l, twosTo x (l ++ [a]) = twosTo x l + twos (x - a)
  | [] => by simp [twosTo]
  | y :: r => by rw [List.cons_append]; unfold twosTo; rw [twosTo_snoc x a r]; omega
theorem up_len : ∀ (t : Int) (l : List Int), (up t l).length = l.length
  | _, [] => rfl
  | t, x :: r => by unfold up; rw [List.length_cons, List.length_cons, up_len]
theorem zeros_sum : ∀ (ps : List Int) (n : Nat), ((ps.map fun _ => (0 : Int)).take n).sum = 0
  | _, 0 => by simp
  | [], _ + 1 => by simp
  | _ :: r, n + 1 => by rw [List.map_cons, List.take_succ_cons, List.sum_cons, zeros_sum r n]; rfl
theorem map_plus (c : Int → Int) (t : Int) : ∀ l : List Int, (l.map fun y => c y + twos (y - t)).sum = (l.map c).sum + twosTo t l
  | [] => rfl
  | y :: r => by
    rw [List.map_cons, List.map_cons, List.sum_cons, List.sum_cons, map_plus c t r]
    unfold twosTo
    rw [twos_sub y t]
    cases r <;> simp only [twosTo] <;> omega
theorem Gr.sums {kvs l : KC} (h : Gr kvs l) : ∀ (c : Int → Int), (∀ y ∈ kvs, y.2 = c y.1) → ∀ m, ((l.map (·.2)).take m).sum = (((l.map (·.1)).take m).map c).sum + pairs ((l.map (·.1)).take m) := by
  induction h with
  | nil => intro c _ m; simp [pairs]
  | @cons kvs l x h1 h2 _ ih =>
    intro c hc m
    cases m with
    | zero => simp [pairs]
    | succ m =>
      have := ih (fun y => c y + twos (y - x.1)) (fun y hy => by
        obtain ⟨z, hz, rfl⟩ := List.mem_map.mp hy
        show z.2 + twos (z.1 - x.1) = _
        rw [hc z (List.mem_filter.mp hz).1]) m
      rw [List.map_cons, List.map_cons, List.take_succ_cons, List.take_succ_cons, List.sum_cons, this, map_plus, List.map_cons, List.sum_cons, hc x h1]
      simp only [pairs]
      omega
theorem zeros_sum' {l : List Int} : (l.map fun _ => (0 : Int)).sum = 0 := by
  have := zeros_sum l l.length
  rwa [List.take_of_length_le (by rw [List.length_map]; exact Nat.le_refl _)] at this
/-- a beginning of a good order has just the first numbers together -/
theorem first_sum {ps : List Int} (nd : ps.Nodup) (m : Nat) : ((numbersOf ps).take m).sum = pairs ((orderOf ps).take m) := by
  have := (run0_gr nd).sums (fun _ => 0) (fun y hy => by obtain ⟨z, _, rfl⟩ := List.mem_map.mp hy; rfl) m
  unfold numbersOf orderOf
  rw [this, zeros_sum']
  omega
theorem Gr.keys {kvs l : KC} (h : Gr kvs l) (nd : (kvs.map (·.1)).Nodup) : (l.map (·.1)).Perm (kvs.map (·.1)) := by
  induction h with
  | nil => exact .refl _
  | @cons kvs l x h1 h2 _ ih =>
    have i := ih (behind_nodup nd)
    rw [behind_keys] at i
    have hm : x.1 ∈ kvs.map (·.1) := List.mem_map.mpr ⟨x, h1, rfl⟩
    have e : (kvs.map (·.1)).filter (fun k => decide (k ≠ x.1)) = (kvs.map (·.1)).erase x.1 := by
      rw [List.Nodup.erase_eq_filter nd]
      refine List.filter_congr fun k _ => ?_
      by_cases h : k = x.1 <;> simp [h]
    rw [e] at i
    rw [List.map_cons]
    exact (i.cons _).trans (List.perm_cons_erase hm).symm
theorem order_perm {ps : List Int} (nd : ps.Nodup) : (orderOf ps).Perm ps := by
  have := (run0_gr nd).keys (by rw [zeros_keys]; exact nd)
  rwa [zeros_keys] at this
theorem perm_of_mem : ∀ {l m : List Int}, l.Nodup → m.Nodup → (∀ x, x ∈ l ↔ x ∈ m) → l.Perm m
  | [], m, _, _, h => by
    have : m = [] := List.eq_nil_iff_forall_not_mem.mpr fun x hx => by have := (h x).mpr hx; cases this
    rw [this]
  | a :: l, m, h1, h2, h => by
    have h1' := List.nodup_cons.mp h1
    have ha := (h a).mp List.mem_cons_self
    have q := List.perm_cons_erase ha
    refine (List.Perm.cons a (perm_of_mem h1'.2 (h2.erase a) fun x => ?_)).trans q.symm
    rw [h2.mem_erase_iff]
    constructor
    · intro hx; exact ⟨fun e => h1'.1 (e ▸ hx), (h x).mp (List.mem_cons_of_mem _ hx)⟩
    · intro ⟨ne, hx⟩
      rcases List.mem_cons.mp ((h x).mpr hx) with e | e
      · exact absurd e ne
      · exact e
end AP
set_option maxHeartbeats 4000000
/-! Numbers with a place more or less; numbers of neighbours and of steps. -/
namespace AP
/-- one more, between the others -/
structure IL (A A' : List Int) : Prop where
  len : A'.length = A.length + 1
  lo : ∀ i, i < A.length → A'.getD i 0 ≤ A.getD i 0
  hi : ∀ i, i < A.length → A.getD i 0 ≤ A'.getD (i + 1) 0
theorem up_getD : ∀ (t : Int) (l : List Int) (i : Nat), i < l.length → (up t l).getD i 0 = l.getD i 0 + t + (i : Int)
  | _, [], _, h => by simp at h
  | t, x :: r, 0, _ => by simp [up]
  | t, x :: r, i + 1, h => by
    unfold up
    rw [List.getD_cons_succ, List.getD_cons_succ, up_getD (t + 1) r i (by simpa using h)]
    omega
theorem IL.up {A A' : List Int} (h : IL A A') : IL (up 0 A) (up 0 A') := by
  have len := h.len
  refine ⟨by rw [up_len, up_len, len], fun i hi => ?_, fun i hi => ?_⟩
  · rw [up_len] at hi
    rw [up_getD _ _ _ hi, up_getD _ _ _ (by omega)]
    have := h.lo i hi
    omega
  · rw [up_len] at hi
    rw [up_getD _ _ _ hi, up_getD _ _ _ (by omega)]
    have := h.hi i hi
    omega
/-! neighbours -/
def row (n : Nat) : List Int := (List.range n).map fun i : Nat => (i : Int)
/-! steps -/
theorem twos_odd_mul {o : Int} (ho : o % 2 = 1) : ∀ (k : Nat) (m : Int), m.natAbs ≤ k → twos (o * m) = twos m
  | 0, m, h => by rw [show m = 0 by omega, Int.mul_zero]
  | k + 1, m, h => by
    by_cases h0 : m = 0
    · rw [h0, Int.mul_zero]
    · rcases mod_two m with e | e
      · obtain ⟨q, rfl⟩ : ∃ q, m = 2 * q := ⟨m / 2, by omega⟩
        have ne : o * q ≠ 0 := fun z => by
          rcases Int.mul_eq_zero.mp z with z | z <;> omega
        have e2 : o * (2 * q) = 2 * (o * q) := by rw [← Int.mul_assoc, Int.mul_comm o 2, Int.mul_assoc]
        rw [e2, twos_even (n := 2 * (o * q)) (by omega) (by omega), twos_even (n := 2 * q) h0 (by omega), show 2 * (o * q) / 2 = o * q by omega, show 2 * q / 2 = q by omega, twos_odd_mul ho k q (by omega)]
      · rw [twos_odd e, twos_odd (by rw [Int.mul_emod, ho, e] <;> rfl)]
theorem twos_pow_mul : ∀ (t : Nat) {m : Int}, m ≠ 0 → twos (2 ^ t * m) = twos m + t
  | 0, m, _ => by simp
  | t + 1, m, h => by
    have e : (2 : Int) ^ (t + 1) * m = 2 * (2 ^ t * m) := by rw [Int.pow_succ, Int.mul_comm (2 ^ t) 2, Int.mul_assoc]
    have ne : (2 : Int) ^ t * m ≠ 0 := fun z => by
      rcases Int.mul_eq_zero.mp z with z | z
      · have := Int.pow_pos (n := (2 : Int)) (m := t) (by decide); omega
      · exact h z
    rw [e, twos_even (n := 2 * (2 ^ t * m)) (by omega) (by omega), show 2 * (2 ^ t * m) / 2 = 2 ^ t * m by omega, twos_pow_mul t h]
    omega
end AP
set_option maxHeartbeats 4000000
/-! Words of polynomials: rests by powers of 2, sums. -/
namespace AP
theorem twos_dvd : ∀ (k : Nat) {n : Int}, n ≠ 0 → n.natAbs ≤ k → ((2 : Int) ^ (twos n).toNat) ∣ n
  | 0, n, h, hk => absurd (by omega) h
  | k + 1, n, h, hk => by
    rcases mod_two n with e | e
    · have ih := twos_dvd k (n := n / 2) (by omega) (by omega)
      obtain ⟨q, hq⟩ := ih
      have t := twos_even h e
      have p := twos_nonneg (n / 2)
      refine ⟨q, ?_⟩
      rw [t, show (twos (n / 2) + 1).toNat = (twos (n / 2)).toNat + 1 by omega, Int.pow_succ, Int.mul_comm (2 ^ _) 2, Int.mul_assoc, ← hq]
      omega
    · rw [twos_odd e]
      exact ⟨n, by simp⟩
theorem pow_dvd_pow {a b : Nat} (h : a ≤ b) : ((2 : Int) ^ a) ∣ 2 ^ b := ⟨2 ^ (b - a), by rw [← Int.pow_add, Nat.add_sub_cancel' h]⟩
end AP
set_option maxHeartbeats 4000000
/-! The good order place by place; sums along it. -/
namespace AP
open PySem PySem.Spec PyProof.Rows L2 Evl
/-! ### picking by place -/
theorem idx_ne {x a : Int} {l : List Int} (h : x ≠ a) : (x :: l).idxOf a = l.idxOf a + 1 := by
  rw [List.idxOf_cons, (show (x == a) = false from beq_false_of_ne h)] <;> rfl
theorem minI_cons {x : Int} {l : List Int} (h : l ≠ []) : minI (x :: l) = min x (minI l) := by
  cases l with
  | nil => exact absurd rfl h
  | cons _ _ => rfl
theorem pick_at : ∀ {kvs : KC}, kvs ≠ [] → pickMin kvs = kvs[(kvs.map (·.2)).idxOf (minI (kvs.map (·.2)))]?
  | [], h => absurd rfl h
  | [x], _ => by
    show some x = [x][([x.2] : List Int).idxOf x.2]?
    rw [List.idxOf_cons_self] <;> rfl
  | x :: y :: r, _ => by
    have ne : (y :: r : KC).map (·.2) ≠ [] := by simp
    have ih := pick_at (kvs := y :: r) (by simp)
    obtain ⟨z, hz, zm, zl, _⟩ := pick_some (kvs := y :: r) (by simp)
    obtain ⟨m1, m2⟩ := minI_ok ne
    have ez : z.2 = minI ((y :: r : KC).map (·.2)) := by
      have a := m2 z.2 (List.mem_map.mpr ⟨z, zm, rfl⟩)
      obtain ⟨u, hu, eu⟩ := List.mem_map.mp m1
      have b := zl u hu
      omega
    have e : pickMin (x :: y :: r) = if x.2 ≤ z.2 then some x else some z := by
      show (match pickMin (y :: r) with | none => some x | some y => if x.2 ≤ y.2 then some x else some y) = _
      rw [hz]
    rw [e, List.map_cons, minI_cons ne]
    by_cases h : x.2 ≤ z.2
    · rw [if_pos h, Int.min_eq_left (by omega), List.idxOf_cons_self] <;> rfl
    · rw [if_neg h, Int.min_eq_right (by omega), idx_ne (by omega), List.getElem?_cons_succ, ← ih, hz]
/-! ### the law's own run -/
def kvL (left ord : List Int) : KC := left.map fun p => (p, twosTo p ord)
theorem kvL_keys (left ord : List Int) : (kvL left ord).map (·.1) = left := by unfold kvL; rw [List.map_map]; exact List.map_id _
theorem kvL_vals (left ord : List Int) : (kvL left ord).map (·.2) = left.map fun p => twosTo p ord := by unfold kvL; rw [List.map_map]; rfl
theorem kvL_behind (left ord : List Int) (t : Int) : behind (kvL left ord) t = kvL (left.filter fun x => decide (x ≠ t)) (ord ++ [t]) := by
  unfold behind kvL
  rw [List.filter_map, List.map_map]
  refine List.map_congr_left fun p _ => ?_
  show (p, twosTo p ord + twos (p - t)) = (p, twosTo p (ord ++ [t]))
  rw [twosTo_snoc]
structure GoodRun (ps ord nums left : List Int) : Prop where
  o : ord ++ (orun left.length (kvL left ord)).map (·.1) = orderOf ps
  n : nums ++ (orun left.length (kvL left ord)).map (·.2) = numbersOf ps
  nd : left.Nodup
  len : ord.length + left.length = ps.length
  same : nums.length = ord.length
  sub : ∀ x ∈ left, x ∈ ps
  subo : ∀ x ∈ ord, x ∈ ps
  apart : ∀ x ∈ left, x ∉ ord
theorem GoodRun.step {ps ord nums left : List Int} (h : GoodRun ps ord nums left) (ne : left ≠ []) :
    ∃ a, left[(left.map fun p => twosTo p ord).idxOf (minI (left.map fun p => twosTo p ord))]? = some a ∧
      GoodRun ps (ord ++ [a]) (nums ++ [(left.map fun p => twosTo p ord).getD ((left.map fun p => twosTo p ord).idxOf (minI (left.map fun p => twosTo p ord))) 0]) (left.filter fun x => decide (x ≠ a)) ∧ (left.filter fun x => decide (x ≠ a)).length + 1 = left.length := by
  have nk : kvL left ord ≠ [] := by unfold kvL; simpa using ne
  obtain ⟨x, hx, xm, _, _⟩ := pick_some nk
  have at_ := pick_at nk
  rw [hx, kvL_vals] at at_
  generalize hk : (left.map fun p => twosTo p ord).idxOf (minI (left.map fun p => twosTo p ord)) = k at at_ ⊢
  have e1 : left[k]? = some x.1 := by
    have : (kvL left ord)[k]? = some x := at_.symm
    have := congrArg (Option.map (·.1)) this
    rw [← List.getElem?_map, kvL_keys] at this
    exact this
  have e2 : (left.map fun p => twosTo p ord).getD k 0 = x.2 := by
    have : (kvL left ord)[k]? = some x := at_.symm
    have := congrArg (Option.map (·.2)) this
    rw [← List.getElem?_map, kvL_vals] at this
    rw [List.getD_eq_getElem?_getD, this] <;> rfl
  have ndk : ((kvL left ord).map (·.1)).Nodup := by rw [kvL_keys]; exact h.nd
  have xl : x.1 ∈ left := List.mem_of_getElem? e1
  have fl := filter_one h.nd xl
  have lenk : (kvL left ord).length = left.length := by unfold kvL; rw [List.length_map]
  have oc := orun_cons ndk hx xm
  rw [kvL_behind, lenk] at oc
  have lk : (kvL (left.filter fun y => decide (y ≠ x.1)) (ord ++ [x.1])).length = (left.filter fun y => decide (y ≠ x.1)).length := by unfold kvL; rw [List.length_map]
  rw [lk] at oc
  have ho := h.o
  have hn := h.n
  rw [oc, List.map_cons] at ho hn
  refine ⟨x.1, e1, ⟨?_, ?_, h.nd.filter _, ?_, ?_, fun y hy => h.sub y (List.mem_filter.mp hy).1, fun y hy => ?_, fun y hy hm => ?_⟩, fl⟩
  · rw [List.append_assoc]; exact ho
  · rw [e2, List.append_assoc]; exact hn
  · rw [List.length_append, List.length_singleton]
    have := h.len
    omega
  · rw [List.length_append, List.length_append, h.same] <;> rfl
  · rcases List.mem_append.mp hy with q | q
    · exact h.subo y q
    · rw [List.mem_singleton.mp q]; exact h.sub _ xl
  · obtain ⟨q1, q2⟩ := List.mem_filter.mp hy
    rcases List.mem_append.mp hm with q | q
    · exact h.apart y q1 q
    · have := of_decide_eq_true q2
      exact this (List.mem_singleton.mp q)
theorem GoodRun.start {a : Int} {r : List Int} (nd : (a :: r).Nodup) : GoodRun (a :: r) [a] [0] r := by
  have hz : ∀ y ∈ ((a :: r).map fun p => (p, (0 : Int))), y.2 = 0 := fun y hy => by obtain ⟨p, _, rfl⟩ := List.mem_map.mp hy; rfl
  have pk : pickMin ((a :: r).map fun p => (p, (0 : Int))) = some (a, 0) := by
    rw [List.map_cons]
    cases e : pickMin (r.map fun p => (p, (0 : Int))) with
    | none => show (match pickMin (r.map fun p => (p, (0 : Int))) with | none => _ | some y => _) = _; rw [e]
    | some y =>
      show (match pickMin (r.map fun p => (p, (0 : Int))) with | none => some (a, (0 : Int)) | some y => if (0 : Int) ≤ y.2 then some (a, 0) else some y) = _
      rw [e]
      have : y.2 = 0 := by
        cases r with
        | nil => cases e
        | cons b r =>
          obtain ⟨z, hz', zm, _⟩ := pick_some (kvs := (b :: r).map fun p => (p, (0 : Int))) (by simp)
          rw [hz'] at e
          cases e
          obtain ⟨p, _, rfl⟩ := List.mem_map.mp zm
          rfl
      exact if_pos (by omega)
  have ndk : (((a :: r).map fun p => (p, (0 : Int))).map (·.1)).Nodup := by rw [List.map_map]; exact (show ((a :: r).map id).Nodup by rw [List.map_id]; exact nd)
  have oc := orun_cons ndk pk List.mem_cons_self
  have be : behind ((a :: r).map fun p => (p, (0 : Int))) a = kvL r [a] := by
    have e0 : ((a :: r).map fun p => (p, (0 : Int))) = kvL (a :: r) [] := rfl
    rw [e0, kvL_behind, List.filter_cons_of_neg (by simp)]
    congr 1
    exact List.filter_eq_self.mpr fun y hy => decide_eq_true (show y ≠ a from fun e => (List.nodup_cons.mp nd).1 (e ▸ hy))
  have hl : (kvL r [a]).length = r.length := by unfold kvL; rw [List.length_map]
  have e : run0 (a :: r) = (a, 0) :: orun r.length (kvL r [a]) := by
    unfold run0
    have hm : ((a :: r).map fun p => (p, (0 : Int))).length = (a :: r).length := List.length_map ..
    rw [← hm, oc, be, hl]
  refine ⟨?_, ?_, (List.nodup_cons.mp nd).2, by simp; omega, rfl, fun x hx => List.mem_cons_of_mem _ hx, fun x hx => by rw [List.mem_singleton.mp hx]; exact List.mem_cons_self, fun x hx hm => (List.nodup_cons.mp nd).1 (List.mem_singleton.mp hm ▸ hx)⟩
  · unfold orderOf
    rw [e] <;> rfl
  · unfold numbersOf
    rw [e] <;> rfl
/-! ### items -/
def countedL (wd : Int) (ns : List Int) (m : Int) : List Int := (ns.take m.toNat).filter fun x => decide (x < wd)
theorem counted_sub (wd : Int) (ns : List Int) (m : Int) : (countedL wd ns m).length ≤ ns.length := Nat.le_trans (List.length_filter_le _ _) (List.length_take_le' _ _)
theorem asc_filter {wd : Int} : ∀ {l : List Int}, l.Pairwise (· ≤ ·) → (l.filter fun x => decide (x < wd)) = l.take (l.filter fun x => decide (x < wd)).length
  | [], _ => rfl
  | x :: l, h => by
    obtain ⟨h1, h2⟩ := List.pairwise_cons.mp h
    by_cases hx : x < wd
    · rw [List.filter_cons_of_pos (by simpa using hx), List.length_cons, List.take_succ_cons, ← asc_filter h2]
    · rw [List.filter_cons_of_neg (by simpa using hx)]
      have : (l.filter fun x => decide (x < wd)) = [] := List.filter_eq_nil_iff.mpr fun y hy => by have := h1 y hy; simp; omega
      rw [this] <;> rfl
theorem counted_take {wd m : Int} {ns : List Int} (h : ns.Pairwise (· ≤ ·)) : countedL wd ns m = ns.take (countedL wd ns m).length := by
  have hs : (ns.take m.toNat).Pairwise (· ≤ ·) := h.sublist (List.take_sublist _ _)
  have e := asc_filter (wd := wd) hs
  unfold countedL
  rw [List.take_take] at e
  have : ((ns.take m.toNat).filter fun x => decide (x < wd)).length ≤ m.toNat := Nat.le_trans (List.length_filter_le _ _) (List.length_take_le _ _)
  rw [Nat.min_eq_left this] at e
  exact e
/-- the sum along the good order, by steps -/
def newt : List Int → List Int → Int → Int
  | _, [], _ => 0
  | [], d :: _, _ => d
  | a :: o, d :: ds, x => d + (x - a) * newt o ds x
def bitsL (wd : Int) (ns : List Int) (m : Int) : List Int := (countedL wd ns m).map fun x => wd - x
structure PlanV where
  cls : Addr
  w : Int
  ps : List Int
  ct : Int
def PlanV.ord (p : PlanV) : List Int := orderOf p.ps
def PlanV.nums (p : PlanV) : List Int := numbersOf p.ps
def PlanV.many (p : PlanV) : Int := ((countedL p.w p.nums p.ct).length : Nat)
instance : Obj' PlanV := ⟨PlanV.cls, fun p => [("code_width", Py.is p.w), ("code_places", Py.is p.ps), ("code_count", Py.is p.ct), ("order", Py.is p.ord), ("numbers", Py.is p.nums), ("many", Py.is p.many)]⟩
def PlanV.ok (p : PlanV) : Prop := wOk p.w ∧ Places p.w p.ps ∧ 0 ≤ p.ct
def wordsL (wd : Int) (ps ds : List Int) : List Int := ps.map fun x => newt (orderOf ps) ds x % 2 ^ wd.toNat
end AP
set_option maxHeartbeats 4000000
/-! Loops over drawn things; new lists that grow on. -/
namespace AP
open PySem PySem.Spec PyProof.Rows L2 Evl
section
variable {K : PySem.W.Frag} {G : Option Addr} {c c0 c1 c2 c3 : Nat} {te ta tb tc tl : TE} {tt : TT} {t t1 t2 : TS} {tr : TA} {Γ : AP.Ctx} {α β γ : Type} [Py α] [Py β] [Py γ] {B B' H B0 H0 : Hp} {σ : L2.St} {z z0 : Int} {D : Ends} {tz : TS} {b : Bool}
/-- over a drawn list, each item as it is drawn -/
theorem q_forLN {j cb : Nat} {A : List β → Prop} (s0 : At G z0 B0 H0) (n : Nx G c0 z0 B0 H0 z B H) (en : Slo B σ Γ) (h : Ty G c te Γ A) (hz : z0 + (c0 + c) ≤ 2 ^ 50)
    (Inv : Nat → AP.Ctx → Hp → Hp → Prop) (h0 : ∀ z' B' H', Nx G c z B H z' B' H' → Slo B' σ Γ → Inv 0 Γ B' H') (up : ∀ i Γ B H H', Inv i Γ B H → Ex H H' → Inv i Γ B H')
    (hs : ∀ xs, A xs → ∀ Bs (i : Nat) x Γ' z' B' H' σ', xs[i]? = some x → Inv i Γ' B' H' → Ex Bs B' → Nx G (c0 + c + i * cb) z0 B0 H0 z' B' H' → Slo B' σ' (Γ'.set j (some (Py.is x))) →
      t { D with nx := Lw G z0 B0 H0 Bs (c0 + c) cb Inv (i + 1), ct := Lw G z0 B0 H0 Bs (c0 + c) cb Inv (i + 1), bk := D.nx } σ' H')
    (hd : ∀ xs, A xs → ∀ Γ' z' B' H' σ', Inv xs.length Γ' B' H' → Ex B B' → Nx G (c0 + c + xs.length * cb) z0 B0 H0 z' B' H' → Slo B' σ' Γ' → D.nx σ' H') : tFor (iList K te) (gName j) t D σ H := by
  refine h z B σ H en n.at_ (by have := n.hi; omega) _ fun xs v z1 B1 H1 ax n1 hv => ?_
  obtain ⟨p, us, rfl, e1, e2⟩ := hv
  refine ⟨p, rfl, ⟨us, sq_of (n1.at_.ex _ _ e1)⟩, ?_⟩
  have src : Src (Itl K p) (gName j) B1 [j] xs.length (fun i Γ => Γ.set j (some (itm xs i))) := src_name itm_st (fun H e => ⟨us, sq_of (e _ _ e1), Nat.le_of_eq e2.len⟩) (fun i hi H e => by
    have lt : i < us.length := by rw [e2.len]; exact hi
    exact ⟨us, us[i], sq_of (e _ _ e1), List.getElem?_eq_getElem lt⟩) fun i hi x' H H' e y => by
    obtain ⟨q1, q2⟩ := y
    exact ⟨q1, e2.got (q2 us (sq_of (e _ _ e1)))⟩
  refine ⟨fun i k σ H => k + i = xs.length ∧ Lw G z0 B0 H0 B1 (c0 + c) cb Inv i σ H, ⟨xs.length, by omega, Γ, z1, B1, h0 z1 B1 H1 n1 (en.up n1.up), Ex.refl _, (n.trans s0 n1).le (by omega), en.up n1.up⟩, ?_⟩
  rintro i k σ2 H2 ⟨e, Γ2, z2, B2, i2, x2, n2, en2⟩
  rcases Nat.lt_or_ge i xs.length with lt | ge
  · refine .inr ⟨src.go i lt H2 (x2.trans n2.at_.ex), Lw G z0 B0 H0 B1 (c0 + c) cb Inv (i + 1), fun σ' H' p => ⟨k - 1, by omega, by omega, p⟩, fun x H3 y => ?_⟩
    obtain ⟨e3, fin⟩ := src.yld i lt x H2 H3 (x2.trans n2.at_.ex) y
    refine fin σ2 Γ2 B2 en2 x2 n2.at_.ex _ fun σ' en3 _ => ?_
    have ge := List.getElem?_eq_getElem lt
    have en3 : Slo B2 σ' (Γ2.set j (some (itm xs i))) := en3
    rw [itm_eq ge] at en3
    exact hs xs ax B1 i _ Γ2 z2 B2 H3 σ' ge (up _ _ _ _ _ i2 e3) x2 ((n2.trans s0 (Nx.more n2.at_ e3)).le (by omega)) en3
  · cases (show i = xs.length by omega)
    exact .inl ⟨src.stop H2 (x2.trans n2.at_.ex), hd xs ax Γ2 z2 B2 H2 σ2 i2 (n1.up.trans x2) n2 en2⟩
theorem q_forLNS {j cb : Nat} {A : List β → Prop} (s0 : At G z0 B0 H0) (n : Nx G c0 z0 B0 H0 z B H) (en : Slo B σ Γ) (h : Ty G c te Γ A) (hz : z0 + (c0 + c) ≤ 2 ^ 50)
    (Inv : Nat → AP.Ctx → Hp → Hp → Prop) (h0 : ∀ z' B' H', Nx G c z B H z' B' H' → Slo B' σ Γ → Inv 0 Γ B' H') (up : ∀ i Γ B H H', Inv i Γ B H → Ex H H' → Inv i Γ B H')
    (hs : ∀ xs, A xs → ∀ Bs (i : Nat) x Γ' z' B' H' σ', xs[i]? = some x → Inv i Γ' B' H' → Ex Bs B' → Nx G (c0 + c + i * cb) z0 B0 H0 z' B' H' → Slo B' σ' (Γ'.set j (some (Py.is x))) →
      t { D with nx := Lw G z0 B0 H0 Bs (c0 + c) cb Inv (i + 1), ct := Lw G z0 B0 H0 Bs (c0 + c) cb Inv (i + 1), bk := tz D } σ' H')
    (hd : ∀ xs, A xs → ∀ Γ' z' B' H' σ', Inv xs.length Γ' B' H' → Ex B B' → Nx G (c0 + c + xs.length * cb) z0 B0 H0 z' B' H' → Slo B' σ' Γ' → tz D σ' H') : tSeq (tFor (iList K te) (gName j) t) tz D σ H :=
  q_forLN (D := { D with nx := tz D }) s0 n en h hz Inv h0 up hs hd
/-- a new list is told: from then on it may be changed -/
theorem q_asgNewS {i : Nat} {A : List α → Prop} (fl : ∀ y : α, Flat (Py.is y)) (s0 : At G z0 B0 H0) (n : Nx G c0 z0 B0 H0 z B H) (en : Slo B σ Γ) (h : TyN G c te Γ A) (hz : z0 + (c0 + c) ≤ 2 ^ 50)
    (k : ∀ xs l us z' B' H' σ', A xs → Nx G c z B H z' B' H' → Nx G (c0 + c) z0 B0 H0 z' B' H' → Slo B' σ' (Γ.set i (some (RefP l))) → H' l = some (.lst us) → B' l = none → H0 l = none → H l = none → Each B' xs us → tz D σ' H') : tSeq (tAsg te (gName i)) tz D σ H :=
  h z B σ H en n.at_ (by have := n.hi; omega) _ fun xs v z' B' H' ax n' hv => by
    obtain ⟨l, us, rfl, e1, e2⟩ := hv
    obtain ⟨b1, b2⟩ := diff_at e1
    have hn : H l = none := by
      rcases n'.new l _ b2 with q | q
      · rw [b1] at q; cases q
      · rcases q with q | ⟨_, q, _⟩
        · exact q
        · cases q
    have n2 : Nx G c z B H z' (fun a => if a = l then none else B' a) H' := ⟨⟨fun a o e => by
        have e : (if a = l then none else B' a) = some o := e
        by_cases q : a = l
        · rw [if_pos q] at e; cases e
        · rw [if_neg q] at e; exact n'.at_.ex a o e, fun g hg => ⟨by
          show (if g = l then none else B' g) = none
          split
          · rfl
          · exact (n'.at_.gen g hg).1, (n'.at_.gen g hg).2⟩⟩, fun a o e => by
        show (if a = l then none else B' a) = some o
        rw [if_neg fun q => by rw [q, b1] at e; cases e]
        exact n'.up a o e, fun a o e => by
        have e : (if a = l then none else B' a) = some o := e
        by_cases q : a = l
        · rw [if_pos q] at e; cases e
        · rw [if_neg q] at e; exact n'.new a o e, n'.lo, n'.hi, n'.keep⟩
    refine k xs l us z' _ H' _ ax n2 (n.trans s0 n2) ((en.up n2.up).set RefP.stays rfl) (n'.at_.ex _ _ b2) (if_pos rfl) (n.gone s0 hn) hn (Each.flat fl e2)
theorem TyN.le {A : α → Prop} (h : TyN G c1 te Γ A) (i : c1 ≤ c2) : TyN G c2 te Γ A := fun z B σ H en s hz Q q => h z B σ H en s (by omega) Q fun x v z' B' H' a n is => q x v z' B' H' a (n.le i) is
end
/-! shapes of written data -/
theorem Shp.of {α : Type} [Py α] [DecidableEq α] [DatOf α] {x : α} (h : DatOf.dep α ≤ 60 := by decide) : Shp (DatOf.toD x) := shp h
end AP
set_option maxHeartbeats 4000000
/-! What the helpers of the codes' laws come to. -/
namespace AP
open PySem PySem.Spec PyProof.Rows L2 Evl
/-! ### drawn places -/
structure PlInv (wd : Int) (xs : List Int) (k : Nat) : Prop where
  nd : xs.Nodup
  bd : ∀ p ∈ xs, 0 ≤ p ∧ p < 2 ^ wd.toNat
  le : xs.length ≤ k
  pos : 0 < k → 0 < xs.length
theorem PlInv.start {wd : Int} : PlInv wd [] 0 := ⟨List.nodup_nil, by simp, by simp, by simp⟩
theorem PlInv.new {wd p : Int} {xs : List Int} {k : Nat} (h : PlInv wd xs k) (hp : p ∉ xs) (hb : 0 ≤ p ∧ p < 2 ^ wd.toNat) : PlInv wd (xs ++ [p]) (k + 1) := by
  refine ⟨List.nodup_append.mpr ⟨h.nd, by simp, fun a ha b hb' => by rw [List.mem_singleton.mp hb']; exact fun e => hp (e ▸ ha)⟩, fun q hq => ?_, by rw [List.length_append]; have := h.le; simp; omega, fun _ => by rw [List.length_append]; simp⟩
  rcases List.mem_append.mp hq with q1 | q1
  · exact h.bd q q1
  · rw [List.mem_singleton.mp q1]; exact hb
theorem PlInv.old {wd p : Int} {xs : List Int} {k : Nat} (h : PlInv wd xs k) (hp : p ∈ xs) : PlInv wd xs (k + 1) := ⟨h.nd, h.bd, by have := h.le; omega, fun _ => List.length_pos_of_mem hp⟩
/-! ### the law's own good order -/
theorem AscN.small {w m : Int} {ps : List Int} (hw : 1 ≤ w ∧ w ≤ 64) (h : AscN w m ps) : ∀ a ∈ ps, 0 ≤ a ∧ a.natAbs < 2 ^ 65 := fun a ha => by
  obtain ⟨h0, h1⟩ := h.2.2.1 a ha
  rw [two_cast'] at h1
  have := Nat.pow_le_pow_right (n := 2) (by decide) (show w.toNat ≤ 64 by omega)
  have : a.natAbs < 2 ^ 64 := by omega
  exact ⟨h0, Nat.lt_trans this (by decide)⟩
theorem AscN.ne {w m : Int} {ps : List Int} (h : AscN w m ps) : ps ≠ [] := fun e => by have := h.1; rw [e] at this; exact absurd this (by decide)
end AP
set_option maxHeartbeats 4000000
/-! Bounds of numbers; items at all widths. -/
namespace AP
open PySem PySem.Spec PyProof.Rows L2 Evl
theorem twosTo_le' {p : Int} : ∀ {r : List Int}, (∀ x ∈ r, (p - x).natAbs < 2 ^ 200) → twosTo p r ≤ 200 * r.length
  | [], _ => by simp [twosTo]
  | x :: r, h => by
    have := twosTo_le' (r := r) fun y hy => h y (List.mem_cons_of_mem _ hy)
    have := twos_log (p - x) (h x List.mem_cons_self)
    unfold twosTo
    rw [List.length_cons]
    omega
theorem small_diff {x y : Int} (hx : x.natAbs < 2 ^ 65) (hy : y.natAbs < 2 ^ 65) : (x - y).natAbs < 2 ^ 200 := by
  have : (x - y).natAbs < 2 ^ 67 := by
    have := Int.natAbs_sub_le x y
    have e : (2 : Nat) ^ 67 = 4 * 2 ^ 65 := by decide
    omega
  exact Nat.lt_trans this (by decide)
theorem pairs_le' {m : Nat} : ∀ {r : List Int}, (∀ x ∈ r, x.natAbs < 2 ^ 65) → r.length ≤ m → pairs r ≤ 200 * m * r.length
  | [], _, _ => by simp [pairs]
  | x :: r, h, hm => by
    rw [List.length_cons] at hm
    have := pairs_le' (m := m) (r := r) (fun y hy => h y (List.mem_cons_of_mem _ hy)) (by omega)
    have := twosTo_le' (p := x) (r := r) fun y hy => small_diff (h x List.mem_cons_self) (h y (List.mem_cons_of_mem _ hy))
    unfold pairs
    rw [List.length_cons, Int.natCast_add, Int.mul_add]
    omega
theorem numbers_nn {ps : List Int} (nd : ps.Nodup) : ∀ x ∈ numbersOf ps, 0 ≤ x := fun x hx => by
  obtain ⟨y, hy, rfl⟩ := List.mem_map.mp hx
  exact (run0_gr nd).ge (m := 0) (fun w hw => by obtain ⟨z, _, rfl⟩ := List.mem_map.mp hw; exact Int.le_refl _) y hy
theorem mem_le_sum : ∀ {l : List Int}, (∀ x ∈ l, 0 ≤ x) → ∀ x ∈ l, x ≤ l.sum
  | [], _, _, h => by cases h
  | a :: l, h, x, hx => by
    have nn : 0 ≤ l.sum := by
      have : ∀ {l : List Int}, (∀ x ∈ l, 0 ≤ x) → 0 ≤ l.sum := fun {l} h => by
        induction l with
        | nil => simp
        | cons a l ih =>
          have := ih fun x hx => h x (List.mem_cons_of_mem _ hx)
          have := h a List.mem_cons_self
          rw [List.sum_cons]
          omega
      exact this fun x hx => h x (List.mem_cons_of_mem _ hx)
    rw [List.sum_cons]
    rcases List.mem_cons.mp hx with e | e
    · rw [e]; omega
    · have := mem_le_sum (fun y hy => h y (List.mem_cons_of_mem _ hy)) x e
      have := h a List.mem_cons_self
      omega
theorem numbers_bound {ps : List Int} (nd : ps.Nodup) (sm : ∀ a ∈ ps, a.natAbs < 2 ^ 65) : ∀ x ∈ numbersOf ps, 0 ≤ x ∧ x ≤ 200 * ps.length * ps.length := fun x hx => by
  refine ⟨numbers_nn nd x hx, ?_⟩
  have h1 := mem_le_sum (numbers_nn nd) x hx
  have h2 := first_sum nd ps.length
  rw [List.take_of_length_le (by rw [numbers_len nd]; exact Nat.le_refl _)] at h2
  have pm := order_perm nd
  rw [List.take_of_length_le (Nat.le_of_eq pm.length_eq)] at h2
  have h3 := pairs_le' (m := ps.length) (r := orderOf ps) (fun y hy => sm y (pm.mem_iff.mp hy)) (Nat.le_of_eq pm.length_eq)
  rw [pm.length_eq] at h3
  omega
/-! ### widths -/
end AP
set_option maxHeartbeats 4000000
/-! The products along a good order, and what sums of them tell. -/
namespace AP
open PySem PySem.Spec PyProof.Rows L2 Evl
/-- an order with its numbers, some places being taken: what each costs, and that none left costs less -/
inductive Along : List Int → List Int → List Int → Prop
  | nil {pre : List Int} : Along pre [] []
  | cons {pre o ns : List Int} {a : Int} : (∀ b ∈ a :: o, twosTo a pre ≤ twosTo b pre) → Along (pre ++ [a]) o ns → Along pre (a :: o) (twosTo a pre :: ns)
theorem kvL_mem {left ord : List Int} {x : Int × Int} (h : x ∈ kvL left ord) : x.1 ∈ left ∧ x.2 = twosTo x.1 ord := by
  obtain ⟨p, hp, rfl⟩ := List.mem_map.mp h
  exact ⟨hp, rfl⟩
theorem gr_along : ∀ {kvs l : KC}, Gr kvs l → ∀ {left ord : List Int}, left.Nodup → kvs = kvL left ord → Along ord (l.map (·.1)) (l.map (·.2)) := by
  intro kvs l h
  induction h with
  | nil => intro left ord _ _; exact .nil
  | @cons kvs l x h1 h2 h3 ih =>
    intro left ord nd e
    subst e
    obtain ⟨xl, xe⟩ := kvL_mem h1
    rw [List.map_cons, List.map_cons, xe]
    have nd2 : (left.filter fun y => decide (y ≠ x.1)).Nodup := nd.filter _
    have ih := ih nd2 (kvL_behind left ord x.1)
    refine .cons (fun b hb => ?_) ih
    have bl : b ∈ left := by
      rcases List.mem_cons.mp hb with q | q
      · rw [q]; exact xl
      · have ks := h3.keys (by rw [kvL_behind, kvL_keys]; exact nd2)
        rw [kvL_behind, kvL_keys] at ks
        exact (List.mem_filter.mp (ks.mem_iff.mp q)).1
    have := h2 (b, twosTo b ord) (List.mem_map.mpr ⟨b, bl, rfl⟩)
    rw [xe] at this
    exact this
theorem order_along {ps : List Int} (nd : ps.Nodup) : Along [] (orderOf ps) (numbersOf ps) := gr_along (run0_gr nd) nd rfl
/-- the product of the differences -/
def prodTo (x : Int) : List Int → Int
  | [] => 1
  | a :: r => (x - a) * prodTo x r
theorem prodTo_snoc (x a : Int) : ∀ l, prodTo x (l ++ [a]) = prodTo x l * (x - a)
  | [] => by simp [prodTo]
  | b :: l => by
    rw [List.cons_append]
    unfold prodTo
    rw [prodTo_snoc x a l, Int.mul_assoc]
theorem prodTo_ne {x : Int} : ∀ {l : List Int}, x ∉ l → prodTo x l ≠ 0
  | [], _ => by show (1 : Int) ≠ 0; decide
  | a :: l, h => by
    have h1 : x ≠ a := fun e => h (e ▸ List.mem_cons_self)
    have h2 := prodTo_ne fun e => h (List.mem_cons_of_mem a e)
    exact Int.mul_ne_zero (by omega) h2
/-- 2 ^ twos times an odd number -/
theorem twos_split : ∀ (k : Nat) {n : Int}, n ≠ 0 → n.natAbs ≤ k → ∃ o : Int, o % 2 = 1 ∧ n = 2 ^ (twos n).toNat * o
  | 0, n, h0, hk => by omega
  | k + 1, n, h0, hk => by
    by_cases h : n % 2 = 0
    · obtain ⟨o, ho, e⟩ := twos_split k (n := n / 2) (by omega) (by omega)
      refine ⟨o, ho, ?_⟩
      rw [twos_even h0 h]
      have := twos_nonneg (n / 2)
      rw [show (twos (n / 2) + 1).toNat = (twos (n / 2)).toNat + 1 by omega, Int.pow_succ, Int.mul_comm _ 2, Int.mul_assoc, ← e]
      omega
    · have h : n % 2 = 1 := by omega
      exact ⟨n, h, by rw [twos_odd h]; show n = 2 ^ 0 * n; rw [Int.pow_zero, Int.one_mul]⟩
theorem twos_mul {a b : Int} (ha : a ≠ 0) (hb : b ≠ 0) : twos (a * b) = twos a + twos b := by
  obtain ⟨o, ho, e⟩ := twos_split _ ha (Nat.le_refl _)
  have := twos_nonneg a
  conv => lhs; rw [e]
  rw [Int.mul_assoc, twos_pow_mul _ (by intro z; rcases Int.mul_eq_zero.mp z with z | z; rw [z] at ho; cases ho; exact hb z), twos_odd_mul ho _ _ (Nat.le_refl _)]
  omega
theorem twos_prod {x : Int} : ∀ {l : List Int}, x ∉ l → twos (prodTo x l) = twosTo x l
  | [], _ => twos_odd rfl
  | a :: l, h => by
    have h1 : x ≠ a := fun e => h (e ▸ List.mem_cons_self)
    have h2 : x ∉ l := fun e => h (List.mem_cons_of_mem a e)
    show twos ((x - a) * prodTo x l) = twos (x - a) + twosTo x l
    rw [twos_mul (by omega) (prodTo_ne h2), twos_prod h2]
theorem dvd_twos {n : Int} {k : Nat} (h : n = 0 ∨ (k : Int) ≤ twos n) : ((2 : Int) ^ k) ∣ n := by
  rcases h with h | h
  · rw [h]; exact Int.dvd_zero _
  · by_cases h0 : n = 0
    · rw [h0]; exact Int.dvd_zero _
    · exact Int.dvd_trans (pow_dvd_pow (by omega)) (twos_dvd _ h0 (Nat.le_refl _))
/-- an odd factor may be left aside -/
theorem odd_cancel {o x : Int} (ho : o % 2 = 1) : ∀ (k : Nat), ((2 : Int) ^ k) ∣ o * x → ((2 : Int) ^ k) ∣ x
  | 0, _ => ⟨x, by rw [Int.pow_zero, Int.one_mul]⟩
  | k + 1, h => by
    have h1 := odd_cancel ho k (Int.dvd_trans (pow_dvd_pow (Nat.le_succ k)) h)
    obtain ⟨y, rfl⟩ := h1
    rw [Int.pow_succ] at h ⊢
    have h2 : (2 : Int) ^ k * 2 ∣ 2 ^ k * (o * y) := by
      have : o * (2 ^ k * y) = 2 ^ k * (o * y) := by rw [← Int.mul_assoc, Int.mul_comm o, Int.mul_assoc]
      rwa [this] at h
    have tp : (2 : Int) ^ k ≠ 0 := by
      have := Int.pow_pos (n := 2) (m := k) (by decide)
      omega
    have h3 : (2 : Int) ∣ o * y := Int.dvd_of_mul_dvd_mul_left tp h2
    have h4 : (2 : Int) ∣ y := by
      have e : (o * y) % 2 = 0 := Int.emod_eq_zero_of_dvd h3
      rw [Int.mul_emod, ho] at e
      omega
    exact Int.mul_dvd_mul_left _ h4
theorem two_cancel {n x : Int} {w : Nat} (h0 : n ≠ 0) (h : ((2 : Int) ^ w) ∣ n * x) (hw : twos n ≤ w) : ((2 : Int) ^ (w - (twos n).toNat)) ∣ x := by
  obtain ⟨o, ho, e⟩ := twos_split _ h0 (Nat.le_refl _)
  have tn := twos_nonneg n
  refine odd_cancel ho _ ?_
  have tp : (2 : Int) ^ (twos n).toNat ≠ 0 := by
    have := Int.pow_pos (n := 2) (m := (twos n).toNat) (by decide)
    omega
  refine Int.dvd_of_mul_dvd_mul_left tp ?_
  rw [← Int.pow_add, show (twos n).toNat + (w - (twos n).toNat) = w by omega, ← Int.mul_assoc, ← e]
  exact h
/-- items within their bounds -/
def ItemsOk (bs ds : List Int) : Prop := ds.length = bs.length ∧ ∀ e ∈ bs.zip ds, 0 ≤ e.2 ∧ e.2 < 2 ^ e.1.toNat
end AP
set_option maxHeartbeats 4000000
/-! Dicts whose keys are tuples of numbers: made, written, counted. -/
namespace AP
open PySem PySem.Spec PyProof.Rows L2 Evl
variable {K : PySem.W.Frag} {G : Option Addr} {c c0 c1 c2 : Nat} {te ta tb tr : TE} {Γ : Ctx} {B H B0 H0 : Hp} {σ : L2.St} {z z0 : Int} {D : Ends} {tz : TS}
/-- a tuple of numbers -/
structure TupI where
  items : List Int
  deriving DecidableEq
instance : Py TupI := ⟨fun t v B => ∃ p, v = .ref p ∧ B p = some (.tup (t.items.map V.int)), fun _ _ _ _ e ⟨p, h1, h2⟩ => ⟨p, h1, e _ _ h2⟩⟩
/-- a dict, by its number of entries -/
structure DicT where
  many : Nat
instance : Py DicT := ⟨fun d v B => ∃ p kvs, v = .ref p ∧ B p = some (.dT kvs) ∧ kvs.length = d.many, fun _ _ _ _ e ⟨p, kvs, h1, h2, h3⟩ => ⟨p, kvs, h1, e _ _ h2, h3⟩⟩
def rTupOf (K : PySem.W.Frag) : List V → Hp → VK → Prop := fun xs H Q => ∃ p ys, xs = [.ref p] ∧ ((SqL K H p ys ∧ ∀ l, H l = none → Q (.ref l) (upd H l (.tup ys))) ∨ (SqT K H p ys ∧ Q (.ref p) H))
theorem ty_tupI {xs : List Int} (h : Ty G c ta Γ (· = xs)) : Ty G (c + 0) (tCB (rTupOf K) (tCons ta tNil)) Γ (· = TupI.mk xs) :=
  ty_cb (ta_cons h ta_nil) fun vs B al z B' H e s Q q => by
    obtain ⟨v, rfl, p, us, rfl, h1, h2⟩ := al.one
    refine ⟨p, us, rfl, Or.inl ⟨sq_of (s.ex _ _ (e _ _ h1)), fun r hr => ?_⟩⟩
    have eu := h2.ints
    subst eu
    have n := Nx.alloc (o := .tup (xs.map V.int)) s hr
    exact q _ _ _ _ _ rfl n ⟨r, rfl, upd_same⟩
/-- the dict's keys -/
def keyI (t : TupI) : List L2.Key := t.items.map Sum.inl
theorem keyI_inj {s t : TupI} (h : keyI s = keyI t) : s = t := by
  cases s with
  | mk a =>
  cases t with
  | mk b =>
  unfold keyI at h
  congr
  exact (List.map_inj_right fun x y h => Sum.inl.inj h).mp h
structure EachD (B : Hp) (xs : List TupI) (kvs : List (List L2.Key × V)) : Prop where
  keys : kvs.map (·.1) = xs.map keyI
theorem EachD.ex {B B' : Hp} {xs : List TupI} {kvs : List (List L2.Key × V)} (h : EachD B xs kvs) (_ : Ex B B') : EachD B' xs kvs := ⟨h.keys⟩
theorem EachD.nil {B : Hp} : EachD B [] [] := ⟨rfl⟩
theorem EachD.len {B : Hp} {xs : List TupI} {kvs : List (List L2.Key × V)} (h : EachD B xs kvs) : kvs.length = xs.length := by
  have := congrArg List.length h.keys
  rwa [List.length_map, List.length_map] at this
theorem EachD.snoc {B : Hp} {xs : List TupI} {kvs : List (List L2.Key × V)} {x : TupI} {v : V} (h : EachD B xs kvs) : EachD B (xs ++ [x]) (kvs ++ [(keyI x, v)]) := ⟨by rw [List.map_append, List.map_append, h.keys] <;> rfl⟩
theorem EachD.fresh {B : Hp} {xs : List TupI} {kvs : List (List L2.Key × V)} {x : TupI} {v : V} (h : EachD B xs kvs) (hx : x ∉ xs) : putK kvs (keyI x) v = kvs ++ [(keyI x, v)] := by
  unfold putK
  rw [if_neg]
  intro q
  obtain ⟨kv, hm, e⟩ := List.any_eq_true.mp q
  have e : kv.1 = keyI x := of_decide_eq_true e
  have : keyI x ∈ xs.map keyI := by rw [← h.keys, ← e]; exact List.mem_map.mpr ⟨kv, hm, rfl⟩
  obtain ⟨y, hy, e2⟩ := List.mem_map.mp this
  exact hx (keyI_inj e2 ▸ hy)
end AP
set_option maxHeartbeats 4000000
/-! All items lists of a code, and how many codewords it has. -/
namespace AP
open PySem PySem.Spec PyProof.Rows L2 Evl
theorem rg1_mem' {n x : Int} (h : x ∈ rg1 n) : 0 ≤ x ∧ x < n := by
  unfold rg1 at h
  obtain ⟨k, hk, rfl⟩ := List.mem_map.mp h
  have := List.mem_range.mp hk
  show (0 : Int) ≤ (k : Int) ∧ (k : Int) < n
  omega
theorem counted_mem {w m : Int} {ns : List Int} {x : Int} (h : x ∈ countedL w ns m) : x ∈ ns ∧ x < w := by
  unfold countedL at h
  obtain ⟨h1, h2⟩ := List.mem_filter.mp h
  exact ⟨List.mem_of_mem_take h1, of_decide_eq_true h2⟩
end AP
set_option maxHeartbeats 4000000
/-! dict(zip(xs, ys)) of lists of numbers; a number out of a dict. -/
namespace AP
open PySem PySem.Spec PyProof.Rows L2 Evl
section
variable {K : PySem.W.Frag} {G : Option Addr} {c c0 c1 c2 : Nat} {te ta tb td : TE} {Γ : Ctx}
/-- a number out of a dict -/
def valI (d : DictI) (k : Int) : Int := ((d.kvs.find? fun e => decide (e.1 = k)).map (·.2)).getD 0
theorem find_kv {k : Int} : ∀ {l : List (Int × Int)}, valV (l.map kvI) (Sum.inl k : L2.Key) = (l.find? fun e => decide (e.1 = k)).map fun e => V.int e.2
  | [] => rfl
  | a :: l => by
    have ih := find_kv (k := k) (l := l)
    unfold valV at ih ⊢
    rw [List.map_cons]
    by_cases h : a.1 = k
    · rw [List.find?_cons_of_pos (by simpa [kvI] using h), List.find?_cons_of_pos (by simpa using h)]
      rfl
    · rw [List.find?_cons_of_neg (by simpa [kvI] using h), List.find?_cons_of_neg (by simpa using h)]
      exact ih
theorem ty_dget {d : DictI} {k : Int} (h1 : Ty G c1 td Γ (· = d)) (h2 : Ty G c2 tb Γ (· = k)) (hk : k ∈ d.kvs.map (·.1)) : Ty G (c1 + c2) (tDGet td tb) Γ (· = valI d k) := fun z B σ H en s hz Q q =>
  h1 z B σ H en s (by omega) _ fun x v z1 B1 H1 ex n1 hv => by
    subst ex
    obtain ⟨p, rfl, g⟩ := hv
    refine h2 z1 B1 σ H1 (en.up n1.up) n1.at_ (by have := n1.hi; omega) _ fun y w z2 B2 H2 ey n2 hw => ?_
    subst ey
    cases (show w = V.int y from hw)
    obtain ⟨e, he, rfl⟩ := List.mem_map.mp hk
    obtain ⟨f, hf⟩ : ∃ f, x.kvs.find? (fun a => decide (a.1 = e.1)) = some f := by
      cases q : x.kvs.find? (fun a => decide (a.1 = e.1)) with
      | some f => exact ⟨f, rfl⟩
      | none =>
        have := List.find?_eq_none.mp q e he
        simp at this
    refine ⟨p, _, rfl, .inl ⟨_, Sum.inl e.1, .inl (n2.at_.ex _ _ (n2.up _ _ g)), rfl, (show some (V.int f.2) = _ by rw [find_kv, hf]; rfl)⟩, ?_⟩
    refine q _ _ z2 B2 H2 rfl ((n1.trans s n2).le (by omega)) ?_
    unfold valI
    rw [hf]
    rfl
end
end AP
set_option maxHeartbeats 4000000
/-! Items read off words: the inverse of an odd number, one item, all items. -/
namespace AP
open PySem PySem.Spec PyProof.Rows L2 Evl
end AP
set_option maxHeartbeats 4000000
/-! What is read off words: sound, whole, and polynomials brought to items. -/
namespace AP
open PySem PySem.Spec PyProof.Rows L2 Evl
theorem prodTo_zero {x : Int} : ∀ {l : List Int}, x ∈ l → prodTo x l = 0
  | a :: l, h => by
    show (x - a) * prodTo x l = 0
    rcases List.mem_cons.mp h with rfl | h
    · rw [Int.sub_self, Int.zero_mul]
    · rw [prodTo_zero h, Int.mul_zero]
end AP
set_option maxHeartbeats 4000000
/-! The reading of a good order: sound and whole. -/
namespace AP
open PySem PySem.Spec PyProof.Rows L2 Evl
theorem along_get : ∀ {pre o ns : List Int}, Along pre o ns → ∀ {j : Nat} {a : Int}, o[j]? = some a → ns[j]? = some (twosTo a (pre ++ o.take j)) := by
  intro pre o ns al
  induction al with
  | nil => intro j a h; cases h
  | @cons pre o ns b h1 h2 ih =>
    intro j a h
    cases j with
    | zero =>
      cases h
      rw [List.take_zero, List.append_nil]
      rfl
    | succ j =>
      have := ih (j := j) (a := a) h
      rw [List.append_assoc] at this
      exact this
theorem take_nin {l : List Int} {k : Nat} {x : Int} (nd : l.Nodup) (h : l[k]? = some x) : x ∉ l.take k := fun hm => by
  obtain ⟨j, hj, e⟩ := List.mem_iff_getElem.mp hm
  rw [List.length_take] at hj
  rw [List.getElem_take] at e
  obtain ⟨hk, e2⟩ := List.getElem?_eq_some_iff.mp h
  have := (List.pairwise_iff_getElem.mp nd) j k (by omega) hk (by omega)
  rw [e, e2] at this
  exact this rfl
/-- what one place of the order tells -/
structure Rd1 (w : Int) (ord nums : List Int) : Prop where
  nd : ord.Nodup
  al : Along [] ord nums
  w1 : 1 ≤ w
  w64 : w ≤ 64
theorem Rd1.at {w : Int} {ord nums : List Int} (R : Rd1 w ord nums) {k : Nat} {x : Int} (h : ord[k]? = some x) : prodTo x (ord.take k) ≠ 0 ∧ nums.getD k 0 = twos (prodTo x (ord.take k)) := by
  have nin := take_nin R.nd h
  refine ⟨prodTo_ne nin, ?_⟩
  have := along_get R.al h
  rw [List.nil_append] at this
  rw [List.getD_eq_getElem?_getD, this, twos_prod nin]
  rfl
end AP
set_option maxHeartbeats 4000000
/-! Codes: words read off, by width, places and count. -/
namespace AP
open PySem PySem.Spec PyProof.Rows L2 Evl
/-- items by their indices -/
theorem items_ix {wd ct : Int} {ps ds : List Int} (nd : ps.Nodup) : ItemsOk (bitsL wd (numbersOf ps) ct) ds ↔ ds.length = (countedL wd (numbersOf ps) ct).length ∧ ∀ j d, ds[j]? = some d → (numbersOf ps).getD j 0 < wd ∧ 0 ≤ d ∧ d < 2 ^ (wd - (numbersOf ps).getD j 0).toNat := by
  have ce := counted_take (wd := wd) (m := ct) (numbers_asc nd)
  have cs := counted_sub wd (numbersOf ps) ct
  have bl : (bitsL wd (numbersOf ps) ct).length = (countedL wd (numbersOf ps) ct).length := by unfold bitsL; rw [List.length_map]
  have cget : ∀ j, j < (countedL wd (numbersOf ps) ct).length → (countedL wd (numbersOf ps) ct)[j]? = some ((numbersOf ps).getD j 0) := fun j hj => by
    rw [ce, List.getElem?_take, if_pos hj, List.getD_eq_getElem?_getD, List.getElem?_eq_getElem (by omega)]
    rfl
  have bget : ∀ j, j < (countedL wd (numbersOf ps) ct).length → (bitsL wd (numbersOf ps) ct)[j]? = some (wd - (numbersOf ps).getD j 0) := fun j hj => by
    unfold bitsL
    rw [List.getElem?_map, cget j hj]
    rfl
  constructor
  · intro ⟨h1, h2⟩
    refine ⟨by rw [h1, bl], fun j d hd => ?_⟩
    have hj : j < (countedL wd (numbersOf ps) ct).length := by
      have := (List.getElem?_eq_some_iff.mp hd).1
      omega
    have hm : (wd - (numbersOf ps).getD j 0, d) ∈ (bitsL wd (numbersOf ps) ct).zip ds := List.mem_of_getElem? (i := j) (List.getElem?_zip_eq_some.mpr ⟨bget j hj, hd⟩)
    exact ⟨(counted_mem (List.mem_of_getElem? (cget j hj))).2, h2 _ hm⟩
  · intro ⟨h1, h2⟩
    refine ⟨by rw [h1, bl], fun e he => ?_⟩
    obtain ⟨j, hj, q⟩ := List.mem_iff_getElem.mp he
    have q2 := List.getElem?_eq_getElem hj
    rw [q] at q2
    obtain ⟨g1, g2⟩ := List.getElem?_zip_eq_some.mp q2
    have hj2 : j < (countedL wd (numbersOf ps) ct).length := by
      have := (List.getElem?_eq_some_iff.mp g2).1
      omega
    rw [bget j hj2] at g1
    have := h2 j e.2 g2
    rw [← Option.some.inj g1]
    exact this.2
end AP
set_option maxHeartbeats 4000000
/-! A list that grows: an item is written, added to, taken off. -/
namespace AP
open PySem PySem.Spec PyProof.Rows L2 Evl
section
variable {K : PySem.W.Frag} {G : Option Addr} {c c0 c1 c2 : Nat} {te ti : TE} {Γ : Ctx} {B H B0 H0 : Hp} {σ : L2.St} {z z0 : Int} {D : Ends} {tz : TS} {l : Addr}
theorem Nx.put {o u : HO} (s0 : At G z0 B0 H0) (n : Nx G c z0 B0 H0 z B H) (hl : H l = some u) (nl : B l = none) (n0 : H0 l = none) : Nx G c z0 B0 H0 z B (upd H l o) := by
  have gl : G ≠ some l := fun hg => by
    obtain ⟨_, _, _, q1, _⟩ := s0.gen l hg
    rw [q1] at n0
    cases n0
  refine ⟨⟨fun a w ha => ?_, fun g hg => ?_⟩, n.up, n.new, n.lo, n.hi, fun a w hg ha => ?_⟩
  · rw [upd_ne (ne_of_none ha nl)]
    exact n.at_.ex a w ha
  · obtain ⟨q1, x, y, q2, q3⟩ := n.at_.gen g hg
    exact ⟨q1, x, y, by rw [upd_ne (fun z => gl (by rw [hg, z]))]; exact q2, q3⟩
  · rw [upd_ne (ne_of_none ha n0)]
    exact n.keep a w hg ha
theorem Each.set {B : Hp} {x : Int} : ∀ {xs : List Int} {us : List V} (j : Nat), Each B xs us → Each B (xs.set j x) (us.set j (.int x))
  | [], [], _, _ => .nil
  | _ :: _, _ :: _, 0, .cons h1 h2 => .cons rfl h2
  | _ :: _, _ :: _, j + 1, .cons h1 h2 => .cons h1 (Each.set j h2)
theorem ixN_in {n : Nat} {i : Int} (h0 : 0 ≤ i) (h1 : i < n) : ixN n i = some i.toNat := by
  unfold ixN
  rw [if_pos h0, if_pos h1]
end
end AP
set_option maxHeartbeats 4000000
/-! New lists by comprehensions over pairs, by slices; x += e. -/
namespace AP
open PySem PySem.Spec PyProof.Rows L2 Evl
section
variable {K : PySem.W.Frag} {G : Option Addr} {c c0 c1 c2 c3 ct cb : Nat} {te ta tb tc : TE} {tt : TT} {tr : TA} {Γ : AP.Ctx} {α β γ δ ε : Type} [Py α] [Py β] [Py γ] [Py δ] {g : TG} {B H B0 H0 : Hp} {σ : L2.St} {z z0 : Int} {D : Ends} {tz : TS}
theorem tn_lcS (fl : ∀ y : β, Flat (Py.is y)) {wi : TI} {js vs : List Nat} {F : Nat → AP.Ctx → AP.Ctx} {es : List ε} {p : ε → Bool} {f : ε → β} (h : TyI G c wi g Γ js (· = es.length) F) (hm : es.length ≤ 40000) (hj : ∀ j ∈ js, j ∈ vs)
    (ht : ∀ i e, es[i]? = some e → TyT G 0 tt (F i (wipeC Γ vs)) (· = p e)) (he : ∀ i e, es[i]? = some e → p e = true → Ty G 0 te (F i (wipeC Γ vs)) (· = f e)) : TyN G c (tLc wi g tt te vs) Γ (· = (es.filter p).map f) := by
  refine TyN.le (c1 := c + es.length * (0 + 0)) ?_ (by simp)
  refine (tn_lc (T := fun i b => ∃ x, es[i]? = some x ∧ b = p x) (A := fun i y => ∃ x, es[i]? = some x ∧ y = f x) (M := es.length) h (fun m e => Nat.le_of_eq e) hm hj (fun m em i hi => ?_) fl fun m em i hi hp => ?_).imp fun ys ⟨m, em, sel⟩ => ?_
  · subst em
    have e := List.getElem?_eq_getElem hi
    exact (ht i _ e).imp fun b q => ⟨_, e, q⟩
  · subst em
    have e := List.getElem?_eq_getElem hi
    obtain ⟨x, e2, q⟩ := hp
    rw [e] at e2
    cases e2
    exact (he i _ e q.symm).imp fun b q => ⟨_, e, q⟩
  · subst em
    have key : ∀ (m : Nat) (ys : List β), Sel (fun i b => ∃ x, es[i]? = some x ∧ b = p x) (fun i y => ∃ x, es[i]? = some x ∧ y = f x) m ys → ys = ((es.take m).filter p).map f := by
      intro m ys sel
      induction sel with
      | nil => rfl
      | no h t ih =>
        obtain ⟨x, e, q⟩ := t
        rw [List.take_add_one, e, List.filter_append, List.map_append, ← ih]
        show _ = _ ++ List.map f (List.filter p [x])
        rw [List.filter_cons, if_neg (by rw [← q]; decide)]
        show _ = _ ++ []
        rw [List.append_nil]
      | yes h t a ih =>
        obtain ⟨x, e, q⟩ := t
        obtain ⟨x', e', q'⟩ := a
        rw [e] at e'
        cases e'
        rw [List.take_add_one, e, List.filter_append, List.map_append, ← ih]
        show _ = _ ++ List.map f (List.filter p [x])
        rw [List.filter_cons, if_pos q.symm, q'] <;> rfl
    have := key _ _ sel
    rw [List.take_length] at this
    exact this
end
end AP
set_option maxHeartbeats 4000000
/-! Coefficients: times (x - a), the last zeros left aside. -/
namespace AP
open PySem PySem.Spec PyProof.Rows L2 Evl
end AP
set_option maxHeartbeats 4000000
/-! New lists in a parallel assignment; a while over one growing list. -/
namespace AP
open PySem PySem.Spec PyProof.Rows L2 Evl
section
variable {K : PySem.W.Frag} {G : Option Addr} {c c0 c1 c2 c3 : Nat} {te ta tb tc : TE} {tt : TT} {t : TS} {Γ : AP.Ctx} {α β : Type} [Py α] [Py β] {A : α → Prop} {A1 : β → Prop} {A2 : List Int → Prop} {B B' H H' B0 H0 : Hp} {σ : L2.St} {z z' z0 : Int} {D : Ends} {tz : TS} {v : V}
theorem Nx.split {xs : List Int} (n' : Nx G c z B H z' B' H') (hv : Py.is xs v (diff B' B)) : ∃ l us B2, v = .ref l ∧ H' l = some (.lst us) ∧ B2 l = none ∧ H l = none ∧ Each B2 xs us ∧ Nx G c z B H z' B2 H' ∧ Ex B B2 := by
  obtain ⟨l, us, rfl, e1, e2⟩ := hv
  obtain ⟨b1, b2⟩ := diff_at e1
  have hn : H l = none := by
    rcases n'.new l _ b2 with q | q
    · rw [b1] at q; cases q
    · rcases q with q | ⟨_, q, _⟩
      · exact q
      · cases q
  have n2 : Nx G c z B H z' (fun a => if a = l then none else B' a) H' := ⟨⟨fun a o e => by
      have e : (if a = l then none else B' a) = some o := e
      by_cases q : a = l
      · rw [if_pos q] at e; cases e
      · rw [if_neg q] at e; exact n'.at_.ex a o e, fun g hg => ⟨by
        show (if g = l then none else B' g) = none
        split
        · rfl
        · exact (n'.at_.gen g hg).1, (n'.at_.gen g hg).2⟩⟩, fun a o e => by
      show (if a = l then none else B' a) = some o
      rw [if_neg fun q => by rw [q, b1] at e; cases e]
      exact n'.up a o e, fun a o e => by
      have e : (if a = l then none else B' a) = some o := e
      by_cases q : a = l
      · rw [if_pos q] at e; cases e
      · rw [if_neg q] at e; exact n'.new a o e, n'.lo, n'.hi, n'.keep⟩
  exact ⟨l, us, _, rfl, n'.at_.ex _ _ b2, if_pos rfl, hn, Each.flat flat_int e2, n2, n2.up⟩
end
end AP
set_option maxHeartbeats 4000000
/-! Items times products, forwards and by Horner's way: the same coefficients. -/
namespace AP
open PySem PySem.Spec PyProof.Rows L2 Evl
def TA' (a : Int) (f : Nat → Int) : Nat → Int := fun j => (match j with | 0 => 0 | i + 1 => f i) - a * f j
def dl (d : Int) : Nat → Int := fun j => if j = 0 then d else 0
/-- what commutes with all times (x - a) -/
structure Lin (S : (Nat → Int) → Nat → Int) : Prop where
  add : ∀ f g, S (fun j => f j + g j) = fun j => S f j + S g j
  mul : ∀ (d : Int) f, S (fun j => d * f j) = fun j => d * S f j
  com : ∀ a f, S (TA' a f) = TA' a (S f)
theorem TA_add (a : Int) (f g : Nat → Int) : TA' a (fun j => f j + g j) = fun j => TA' a f j + TA' a g j := by
  funext j
  cases j with
  | zero => show 0 - a * (f 0 + g 0) = (0 - a * f 0) + (0 - a * g 0); rw [Int.mul_add]; omega
  | succ i => show (f i + g i) - a * (f (i + 1) + g (i + 1)) = (f i - a * f (i + 1)) + (g i - a * g (i + 1)); rw [Int.mul_add]; omega
theorem TA_mul (a d : Int) (f : Nat → Int) : TA' a (fun j => d * f j) = fun j => d * TA' a f j := by
  funext j
  cases j with
  | zero => show 0 - a * (d * f 0) = d * (0 - a * f 0); rw [Int.mul_sub, Int.mul_zero, Int.mul_left_comm]
  | succ i => show d * f i - a * (d * f (i + 1)) = d * (f i - a * f (i + 1)); rw [Int.mul_sub, Int.mul_left_comm]
theorem TA_com (a b : Int) (f : Nat → Int) : TA' a (TA' b f) = TA' b (TA' a f) := by
  funext j
  cases j with
  | zero => show 0 - a * (0 - b * f 0) = 0 - b * (0 - a * f 0); rw [Int.mul_sub, Int.mul_sub, Int.mul_left_comm, Int.mul_zero, Int.mul_zero]
  | succ i =>
    cases i with
    | zero => show (0 - b * f 0) - a * (f 0 - b * f 1) = (0 - a * f 0) - b * (f 0 - a * f 1); rw [Int.mul_sub, Int.mul_sub, Int.mul_left_comm a b]; omega
    | succ i => show (f i - b * f (i + 1)) - a * (f (i + 1) - b * f (i + 2)) = (f i - a * f (i + 1)) - b * (f (i + 1) - a * f (i + 2)); rw [Int.mul_sub, Int.mul_sub, Int.mul_left_comm a b]; omega
theorem Lin.step {S : (Nat → Int) → Nat → Int} (h : Lin S) (a : Int) : Lin (fun f => S (TA' a f)) :=
  ⟨fun f g => by show S (TA' a fun j => f j + g j) = _; rw [TA_add, h.add], fun d f => by show S (TA' a fun j => d * f j) = _; rw [TA_mul, h.mul], fun b f => by show S (TA' a (TA' b f)) = TA' b (S (TA' a f)); rw [TA_com, h.com]⟩
theorem Lin.one : Lin (fun f => f) := ⟨fun _ _ => rfl, fun _ _ => rfl, fun _ _ => rfl⟩
end AP
set_option maxHeartbeats 4000000
/-! A comprehension over a drawn number of turns. -/
namespace AP
open PySem PySem.Spec PyProof.Rows L2 Evl
end AP
set_option maxHeartbeats 4000000
/-! Coefficients told of items: their words, their length; codes of one item fewer. -/
namespace AP
open PySem PySem.Spec PyProof.Rows L2 Evl
end AP
set_option maxHeartbeats 4000000
/-! for x in reversed(xs); xs.reverse() on a growing list. -/
namespace AP
open PySem PySem.Spec PyProof.Rows L2 Evl
end AP
set_option maxHeartbeats 4000000
/-! Errors: defs that raise, a caught error that is kept as a value. -/
namespace AP
open PySem PySem.Spec PyProof.Rows L2 Evl
/-- a value of any kind together with what stands for it -/
structure DU where
  d : Dat
  u : V
instance : Py DU := ⟨fun x v B => v = x.u ∧ Py.is x.d v B, fun x _ _ _ e ⟨a, b⟩ => ⟨a, Py.st x.d _ _ _ e b⟩⟩
/-- an object that is an exception of the class at C with its dict at d -/
structure ExAt (h : Heap) (a C d : Addr) : Prop where
  ex : ∃ o vs, h.get? a = some o ∧ o.cls = .ref C ∧ o.dict = some d ∧ o.data = .fields vs
/-- an error that was caught: at a -/
def exq (a C d : Addr) : HO := .ext fun h => ExAt h a C d
end AP
set_option maxHeartbeats 4000000
/-! Promises of defs that may raise. -/
namespace AP
open PySem PySem.Spec PyProof.Rows L2 Evl
/-- what an expression comes to that may raise -/
def TyX (G : Option Addr) (c : Nat) (te : TE) (Γ : Ctx) {α : Type} [Py α] (A : α → Prop) (Er : Addr × V → Prop) (E : XK) : Prop :=
  ∀ z B σ H, Slo B σ Γ → At G z B H → z + c ≤ 2 ^ 50 → ∀ Q : VK, (∀ e, Er e → ∀ d z' B' H', Nx G c z B H z' B' H' → B' d = some (.xd [("value", e.2)]) → E (.ref e.1) (some d) H') →
    (∀ x v z' B' H', A x → Nx G c z B H z' B' H' → Py.is x v B' → Q v H') → te σ H Q
/-! ### defs, calls -/
section
variable {P : Program} {w : World} {K : PySem.W.Frag} {mg : Str → Option Value} {base : Heap} {ι β : Type} [Py β]
/-- a def of the text that may raise, and keeps its promise -/
structure FoX (P : Program) (w : World) (K : PySem.W.Frag) (mg : Str → Option Value) (base : Heap) (x : Str) (k : Nat) (ps : List Str) (sp : Sp) : Prop where
  ex : ∃ (f : Addr) (fd : FuncData), mg x = some (.ref f) ∧ PySem.W.keepIn K (.ref f) = true ∧ Binds K fd ps [] ∧
    (∀ (s : Shared) (ws : List Value), K.In s.heap → ws.length = ps.length → BindsTo s fd ⟨[], ps.reverse.zip ws⟩ (ps.zip ws.reverse)) ∧ FnOk P w K mg base (L2.CX P w) k f fd ps sp
theorem FoX.mk' {x qual : Str} {st : Stmt} {f : Addr} {fd : FuncData} {ps : List Str} {k : Nat} {sp : Sp} (F : Df K x qual st [] f fd) (m : mg x = some (.ref f)) (G : FnOk P w K mg base (L2.CX P w) k f fd ps sp)
    (b : ∀ (kV doc pm : Value) (an : Option Addr) (cdv ct : Value) (us : List Value), us.length = ps.length → bindArgs (PySem.W.fnOf x qual (defArgs st) (defBody st) (defScope st) .none kV doc pm an cdv ct) ⟨us, []⟩ = pure (ps.zip us))
    (bk : ∀ (kV doc pm : Value) (an : Option Addr) (cdv ct : Value) (us : List Value), us.length = ps.length → bindArgs (PySem.W.fnOf x qual (defArgs st) (defBody st) (defScope st) .none kV doc pm an cdv ct) ⟨[], ps.reverse.zip us⟩ = pure (ps.zip us.reverse)) :
    FoX P w K mg base x k ps sp := by
  refine ⟨f, fd, m, F.kp, FunD.bindsN F b, fun s ws _ hl => ?_, G⟩
  obtain ⟨oc, od, dV, kV, doc, pm, an, cdv, ct, osl, rfl, lk, hcd, hD, hK⟩ := F.ex
  rcases hD with ⟨_, rfl⟩ | ⟨e, _⟩
  · exact .of_eq (bk kV doc pm an cdv ct ws hl)
  · exact absurd rfl e
end
end AP
set_option maxHeartbeats 4000000
/-! A caught error as a value: its class, its field. -/
namespace AP
open PySem PySem.Spec PyProof.Rows L2 Evl
structure ErrV where
  C : Addr
  x : DU
instance : Py ErrV := ⟨fun e v B => ∃ a d, v = .ref a ∧ B a = some (exq a e.C d) ∧ B d = some (.xd [("value", e.x.u)]) ∧ Py.is e.x.d e.x.u B, fun e _ _ _ up ⟨a, d, h1, h2, h3, h4⟩ => ⟨a, d, h1, up _ _ h2, up _ _ h3, Py.st _ _ _ _ up h4⟩⟩
end AP
set_option maxHeartbeats 4000000
/-! What is demanded of arguments, and the error of the first one that is wrong. -/
namespace AP
open PySem PySem.Spec PyProof.Rows L2 Evl
/-- no error if right, else the error of the class of this name with the value -/
def due (cl : Str → Addr) (right : Bool) (nm : Str) (x : DU) : Option (Addr × V) := if right = true then none else some (cl nm, x.u)
end AP
set_option maxHeartbeats 4000000
/-! xs < ys of lists of ints. -/
namespace AP
open PySem PySem.Spec PyProof.Rows L2 Evl PySem.W
def intsD (ns : List Int) : List PyData := ns.map PyData.int
section
variable {K : PySem.W.Frag} {G : Option Addr} {c1 c2 : Nat} {ta tb : TE} {Γ : Ctx}
theorem ty_notB {a b : Bool} (ha : Ty G c1 ta Γ (· = a)) (hb : Ty G c2 tb Γ (· = b)) : Ty G (c1 + c2) (tOp rNotB ta tb) Γ (· = !decide (a = b)) :=
  ty_op ha hb fun x y v w B ex ey hv hw z B' H e s Q q => ⟨x, y, hv, hw, q _ _ z B' H (by rw [ex, ey]) (.refl s) rfl⟩
end
section
variable {X : Cx}
theorem pe_revU {e : Expr} {te : TE} {k : Nat} {p1 p2 p3 pos : Pos} (he : PE X e te) {ts : TE} (hs : PE X (.UnaryOp .USub (.Constant (.int 1) k p1) p2) ts) :
    PE X (.Subscript e (.Slice none none (some (.UnaryOp .USub (.Constant (.int 1) k p1) p2)) p3) pos) (tRevS X.K te ts) := by
  refine ⟨fun pins s σ H Q I h => ?_⟩
  refine Subscript_ (thn (he.run pins s σ H _ I h) fun v sa hv => ?_)
  obtain ⟨x, Ha, Ia, rx, want⟩ := hv
  have none1 := po_none (X := X)
  refine wpAny_Slice (thn (none1.run pins sa σ Ha (fun o Hb => o = none ∧ Hb = Ha) Ia ⟨rfl, rfl⟩) fun vl sb hb => ?_)
  obtain ⟨l, Hb, Ib, pl, el, eb⟩ := hb
  subst el eb
  refine thn (none1.run pins sb σ Hb (fun o Hc => o = none ∧ Hc = Hb) Ib ⟨rfl, rfl⟩) fun vu sc hc => ?_
  obtain ⟨u, Hc, Ic, pu, eu, ec⟩ := hc
  subst eu ec
  refine thn ((po_some hs).run pins sc σ Hc (fun o Hd => o = some (-1) ∧ ∃ a xs, x = .ref a ∧ SqL X.K Hd a xs ∧ ∀ p, Hd p = none → Q (.ref p) (upd Hd p (.lst xs.reverse))) Ic ?_) fun vs sd hd => ?_
  · have want' : ts σ Hc fun y H2 => ∃ a xs, x = .ref a ∧ y = .int (-1) ∧ SqL X.K H2 a xs ∧ ∀ p, H2 p = none → Q (.ref p) (upd H2 p (.lst xs.reverse)) := want
    have e : (fun (y : V) (H2 : Hp) => ∃ a xs, x = .ref a ∧ y = .int (-1) ∧ SqL X.K H2 a xs ∧ ∀ p, H2 p = none → Q (.ref p) (upd H2 p (.lst xs.reverse))) =
        fun (y : V) (H2 : Hp) => ∃ i, y = .int i ∧ (some i = some (-1) ∧ ∃ a xs, x = .ref a ∧ SqL X.K H2 a xs ∧ ∀ p, H2 p = none → Q (.ref p) (upd H2 p (.lst xs.reverse))) := by
      funext y H2
      refine propext ⟨fun ⟨a, xs, h1, h2, h3, h4⟩ => ⟨-1, h2, rfl, a, xs, h1, h3, h4⟩, fun ⟨i, h1, h2, a, xs, h3, h4, h5⟩ => ?_⟩
      injection h2 with h2
      subst h2
      exact ⟨a, xs, h3, h1, h4, h5⟩
    show ts σ Hc fun (y : V) (H2 : Hp) => ∃ i, y = .int i ∧ (some i = some (-1) ∧ ∃ a xs, x = .ref a ∧ SqL X.K H2 a xs ∧ ∀ p, H2 p = none → Q (.ref p) (upd H2 p (.lst xs.reverse)))
    rw [← e]
    exact want'
  obtain ⟨o, Hd, Id, ps, eo, a, xs, ex, hx, go⟩ := hd
  subst eo ex
  cases rx
  generalize hsl : sd.heap.push { cls := .type "slice", data := .fields #[vl, vu, vs] } = hp'
  have Ie : Inv X pins σ Hd { sd with heap := hp' } := by
    subst hsl
    exact Id.kept (t' := sd.toks) fun b ob z => Heap.get?_push_of_some _ z
  obtain ⟨its, r, ht, hz⟩ := Ie.list hx
  have hlen := r.length
  subst hsl
  refine tail_any (ops := [.ref a, .ref sd.heap.objs.size]) ht.isList.typeIs (PySem.slot_list_getitem.lookup) ?_ (by with_unfolding_all rfl)
  refine wpAny_getItem_list_slice ht.isList (Heap.IsSliceOf.new _ vl vu vs) pl pu ps (by decide) ?_ (by simp only [List.size_toArray]; omega)
  rw [PySem.W.krv_pick]
  refine ⟨.ref _, _, Ie.laid (t' := sd.toks) (o := .lst xs.reverse) (fun b ob z => Heap.get?_push_of_some _ z) (Nat.le_refl _) ?_, rfl, go _ (Ie.hok.fresh (Nat.le_refl _))⟩
  exact ⟨by simp only [List.length_reverse]; exact hz, _, 0, r.reverse, Heap.get?_push_size _ rfl⟩
end
end AP
set_option maxHeartbeats 4000000
/-! [xs.pop(random(g, len(xs))) for t in range(n)]: some of a list, each place once. -/
namespace AP
open PySem PySem.Spec PyProof.Rows L2 Evl
end AP
set_option maxHeartbeats 4000000
/-! Defs as values; lists told new that are read and later changed; numbers of so many bits, of any value. -/
namespace AP
open PySem PySem.Spec PyProof.Rows L2 Evl
/-! ### defs as values -/
structure FnV where
  f : Addr
instance : Py FnV := ⟨fun r v _ => v = .ref r.f, fun _ _ _ _ _ h => h⟩
section
variable {K : PySem.W.Frag} {G : Option Addr} {c c0 c1 c2 c3 : Nat} {te ta tb tx : TE} {tt : TT} {Γ : Ctx} {ι α β γ : Type} [Py α] [Py β] [Py γ] {A : α → Prop} {Ps : List VP} {tr : TA} {B B' H B0 H0 : Hp} {v w : V}
  {σ : L2.St} {z z0 : Int} {D : Ends} {t t1 t2 tz : TS} {E : XK}
/-! ### what stood before some list came -/
structure OldV (B1 : Hp) (α : Type) where
  v : α
instance {B1 : Hp} {α : Type} [Py α] : Py (OldV B1 α) := ⟨fun x w B => Py.is x.v w B1 ∧ Py.is x.v w B, fun x w B B' e h => ⟨h.1, Py.st x.v w B B' e h.2⟩⟩
theorem Ty.old {B1 : Hp} {x : α} (h : Ty G c te Γ (· = (OldV.mk x : OldV B1 α))) : Ty G c te Γ (· = x) := fun z B σ H en s hz Q q => h z B σ H en s hz Q fun y v z' B' H' ey n hv => q x v z' B' H' rfl n (by subst ey; exact hv.2)
inductive Age (B1 : Hp) : Ctx → Ctx → Prop
  | nil : Age B1 [] []
  | cons {α : Type} [Py α] (x : α) {Γ Γ' : Ctx} : Age B1 Γ Γ' → Age B1 (some (Py.is x) :: Γ) (some (Py.is (OldV.mk x : OldV B1 α)) :: Γ')
  | skip {o : Option VP} {Γ Γ' : Ctx} : Age B1 Γ Γ' → Age B1 (o :: Γ) (none :: Γ')
theorem Age.ok {B1 : Hp} {Γ Γ' : Ctx} (a : Age B1 Γ Γ') : Γ'.length = Γ.length ∧ ∀ (k : Nat) (P2 : VP), Γ'[k]? = some (some P2) → ∃ P : VP, Γ[k]? = some (some P) ∧ Stays P2 ∧ ∀ v, P v B1 → P2 v B1 := by
  induction a with
  | nil => exact ⟨rfl, fun k P2 h => by simp at h⟩
  | cons x _ ih =>
    refine ⟨by simp [ih.1], fun k P2 h => ?_⟩
    cases k with
    | zero => cases h; exact ⟨_, rfl, Py.stays _, fun v h => ⟨h, h⟩⟩
    | succ k => exact ih.2 k P2 h
  | skip _ ih =>
    refine ⟨by simp [ih.1], fun k P2 h => ?_⟩
    cases k with
    | zero => cases h
    | succ k => exact ih.2 k P2 h
theorem Slo.age {Γ' : Ctx} (en : Slo B σ Γ) (a : Age B Γ Γ') : Slo B σ Γ' := en.sink a.ok.1 a.ok.2
inductive Young (B1 : Hp) : Ctx → Ctx → Prop
  | nil : Young B1 [] []
  | old {α : Type} [Py α] (x : α) {Γ Γ' : Ctx} : Young B1 Γ Γ' → Young B1 (some (Py.is (OldV.mk x : OldV B1 α)) :: Γ) (some (Py.is x) :: Γ')
  | lat {l : Addr} {xs : List Int} {Γ Γ' : Ctx} : Young B1 Γ Γ' → Young B1 (some (Py.is (LAt.mk l xs)) :: Γ) (some (RefP l) :: Γ')
  | flat {P : VP} (f : Flat P) {Γ Γ' : Ctx} : Young B1 Γ Γ' → Young B1 (some P :: Γ) (some P :: Γ')
  | skip {o : Option VP} {Γ Γ' : Ctx} : Young B1 Γ Γ' → Young B1 (o :: Γ) (none :: Γ')
theorem Young.ok {B1 B : Hp} {Γ Γ' : Ctx} (a : Young B1 Γ Γ') : Γ'.length = Γ.length ∧ ∀ (k : Nat) (P2 : VP), Γ'[k]? = some (some P2) → ∃ P : VP, Γ[k]? = some (some P) ∧ Stays P2 ∧ ∀ v, P v B → P2 v B1 := by
  induction a with
  | nil => exact ⟨rfl, fun k P2 h => by simp at h⟩
  | old x _ ih =>
    refine ⟨by simp [ih.1], fun k P2 h => ?_⟩
    cases k with
    | zero => cases h; exact ⟨_, rfl, Py.stays _, fun v h => h.1⟩
    | succ k => exact ih.2 k P2 h
  | lat _ ih =>
    refine ⟨by simp [ih.1], fun k P2 h => ?_⟩
    cases k with
    | zero => cases h; exact ⟨_, rfl, RefP.stays, fun v h => h.1⟩
    | succ k => exact ih.2 k P2 h
  | flat f _ ih =>
    refine ⟨by simp [ih.1], fun k P2 h => ?_⟩
    cases k with
    | zero => cases h; exact ⟨_, rfl, fun v B B' _ h => f v B B' h, fun v h => f v _ _ h⟩
    | succ k => exact ih.2 k P2 h
  | skip _ ih =>
    refine ⟨by simp [ih.1], fun k P2 h => ?_⟩
    cases k with
    | zero => cases h
    | succ k => exact ih.2 k P2 h
theorem Slo.young {Γ' : Ctx} {B1 : Hp} (en : Slo B σ Γ) (a : Young B1 Γ Γ') : Slo B1 σ Γ' := en.sink (a.ok (B := B)).1 (a.ok (B := B)).2
theorem Slo.lat {k : Nat} {l : Addr} {xs : List Int} (en : Slo B σ Γ) (h : Γ[k]? = some (some (Py.is (LAt.mk l xs)))) : B l = some (.lst (xs.map V.int)) := by
  obtain ⟨v, _, _, hv⟩ := en.all k _ h
  exact hv.2
theorem Nx.back {c0 c1 : Nat} {z1 : Int} {B1 H1 : Hp} (n1 : Nx G c0 z0 B0 H0 z1 B1 H1) (n : Nx G c1 z0 B0 H0 z B H) (e : Ex B1 B) : Nx G c1 z0 B0 H0 z B1 H :=
  ⟨⟨e.trans n.at_.ex, fun g hg => ⟨by
    cases q : B1 g with
    | none => rfl
    | some o => exact absurd ((e _ _ q).symm.trans (n.at_.gen g hg).1) (by simp), (n.at_.gen g hg).2⟩⟩, n1.up, n1.new, n.lo, n.hi, n.keep⟩
theorem Ex.no {B1 : Hp} (e : Ex B1 B) {l : Addr} (h : B l = none) : B1 l = none := by
  cases q : B1 l with
  | none => rfl
  | some o => rw [e _ _ q] at h; cases h
theorem q_asgLS {A : List Int → Prop} (s0 : At G z0 B0 H0) (n : Nx G c0 z0 B0 H0 z B H) (en : Slo B σ Γ) {i : Nat} (h : TyN G c te Γ A) (hz : z0 + (c0 + c) ≤ 2 ^ 50)
    (k : ∀ xs l z' B' H' σ', A xs → Nx G c z B H z' B' H' → Nx G (c0 + c) z0 B0 H0 z' B' H' → B l = none → H0 l = none → B' l = some (.lst (xs.map V.int)) → Slo B' σ' (Γ.set i (some (Py.is (LAt.mk l xs)))) → tz D σ' H') : tSeq (tAsg te (gName i)) tz D σ H :=
  h z B σ H en n.at_ (by have := n.hi; omega) _ fun x v z' B' H' ax n' hv => by
    obtain ⟨l, rfl, e⟩ := Py.ints hv
    obtain ⟨e1, e2⟩ := diff_at e
    have hn : H l = none := by
      rcases n'.new l _ e2 with q | q
      · rw [e1] at q; cases q
      · rcases q with q | ⟨us, q, _⟩
        · exact q
        · cases q
    exact k x l z' B' H' _ ax n' (n.trans s0 n') e1 (n.gone s0 hn) e2 ((en.up n'.up).set (Py.stays (LAt.mk l x)) ⟨rfl, e2⟩)
/-! ### new results: the first of a pair, pairs -/
end
/-! ### numbers of so many bits -/
end AP
set_option maxHeartbeats 4000000
/-! A law's generator at a constant index; `drawn and false`. -/
namespace AP
open PySem PySem.Spec PyProof.Rows L2 Evl
end AP
set_option maxHeartbeats 4000000
/-! sorted lists of tuples; dicts of tuples put again and again; list(dict). -/
namespace AP
open PySem PySem.Spec PyProof.Rows L2 Evl PySem.W
/-- values and the tuples that they are -/
inductive TupsAt (H : Hp) : List TupI → List V → Prop
  | nil : TupsAt H [] []
  | cons {t : TupI} {p : Addr} {ts : List TupI} {vs : List V} : H p = some (.tup (t.items.map V.int)) → TupsAt H ts vs → TupsAt H (t :: ts) (.ref p :: vs)
theorem TupsAt.each {B : Hp} : ∀ {ts : List TupI} {vs : List V}, TupsAt B ts vs → Each B ts vs
  | _, _, .nil => .nil
  | _, _, .cons h r => .cons ⟨_, rfl, h⟩ r.each
theorem TupsAt.of {B H : Hp} (e : Ex B H) : ∀ {ts : List TupI} {vs : List V}, Each B ts vs → TupsAt H ts vs
  | [], _, h => by cases h; exact .nil
  | t :: ts, _, h => by
    cases h with
    | cons a b =>
      obtain ⟨p, rfl, hp⟩ := a
      exact .cons (e _ _ hp) (TupsAt.of e b)
theorem TupsAt.len {H : Hp} : ∀ {ts : List TupI} {vs : List V}, TupsAt H ts vs → vs.length = ts.length
  | _, _, .nil => rfl
  | _, _, .cons _ r => by rw [List.length_cons, List.length_cons, r.len]
/-! ### tuples that were there become known -/
section
variable {K : PySem.W.Frag} {G : Option Addr} {c c0 c1 c2 : Nat} {te ta tb tr : TE} {Γ : Ctx} {B B' H B0 H0 : Hp} {σ : L2.St} {z z0 : Int} {D : Ends} {tz : TS}
/-! ### dicts of tuples -/
structure DicS where
  keys : List TupI
instance : Py DicS := ⟨fun d v B => ∃ p kvs, v = .ref p ∧ B p = some (.dT kvs) ∧ EachD B d.keys kvs, fun _ _ _ _ e ⟨p, kvs, h1, h2, h3⟩ => ⟨p, kvs, h1, e _ _ h2, ⟨h3.keys⟩⟩⟩
def addT (xs : List TupI) (t : TupI) : List TupI := if t ∈ xs then xs else xs ++ [t]
theorem EachD.put {xs : List TupI} {kvs : List (List L2.Key × V)} {x : TupI} {v : V} (h : EachD B xs kvs) : EachD B (addT xs x) (putK kvs (keyI x) v) := by
  by_cases q : x ∈ xs
  · have e : (kvs.any fun kv => decide (kv.1 = keyI x)) = true := by
      have : keyI x ∈ kvs.map (·.1) := by rw [h.keys]; exact List.mem_map.mpr ⟨x, q, rfl⟩
      obtain ⟨kv, hk, e⟩ := List.mem_map.mp this
      exact List.any_eq_true.mpr ⟨kv, hk, decide_eq_true e⟩
    unfold putK addT
    rw [if_pos e, if_pos q]
    refine ⟨?_⟩
    rw [← h.keys, List.map_map]
    exact List.map_congr_left fun kv _ => by
      show (if kv.1 = keyI x then (kv.1, v) else kv).1 = kv.1
      split <;> rfl
  · rw [h.fresh q]
    unfold addT
    rw [if_neg q]
    exact h.snoc
end
end AP
set_option maxHeartbeats 4000000
/-! list(xs) that is new; list(tuple). -/
namespace AP
open PySem PySem.Spec PyProof.Rows L2 Evl
section
variable {K : PySem.W.Frag} {G : Option Addr} {c c0 c1 c2 : Nat} {te ta tb tr : TE} {Γ : AP.Ctx} {B B' H B0 H0 : Hp} {σ : L2.St} {z z0 : Int} {D : Ends} {tz : TS}
theorem tn_listOf {xs : List Int} (h : Ty G c ta Γ (· = xs)) : TyN G (c + 0) (tCB (rListS K) (tCons ta tNil)) Γ (· = xs) := fun z B σ H en s hz Q q => by
  refine h z B σ H en s (by omega) _ fun x v z1 B1 H1 ex n1 hv => ?_
  subst ex
  obtain ⟨p, us, rfl, h1, h2⟩ := hv
  refine ⟨p, us, rfl, Or.inl (sq_of (n1.at_.ex _ _ h1)), fun r hr => ?_⟩
  have eu := h2.ints
  subst eu
  have s1 := n1.at_
  have n := Nx.alloc (o := .lst (x.map V.int)) s1 hr
  have p0 : B r = none := by
    cases e0 : B r with
    | none => rfl
    | some o => rw [s1.ex _ _ (n1.up _ _ e0)] at hr; cases hr
  exact q _ _ _ _ _ rfl ((n1.trans s n).le (by omega)) ⟨r, _, rfl, by unfold diff; rw [if_pos p0, upd_same], Each.of_ints x⟩
end
/-! ### max(xs, default=d) of ints -/
end AP
set_option maxHeartbeats 4000000
/-! A method's call within a comprehension. -/
namespace AP
open PySem PySem.Spec PyProof.Rows L2 Evl
end AP
set_option maxHeartbeats 4000000
/-! Tuples of numbers as data; x in xs of any data; xs[i] = a drawn number. -/
namespace AP
open PySem PySem.Spec PyProof.Rows L2 Evl
open DatOf (toD)
theorem tup_dats {B : Hp} : ∀ ns : List Int, DatVs B (ns.map Dat.int) (ns.map V.int)
  | [] => .nil
  | n :: ns => .cons (dat_int rfl) (tup_dats ns)
instance : DatOf TupI := ⟨fun t => .tup (t.items.map Dat.int), fun t v B ⟨p, e, h⟩ => by subst e; exact .tup h (tup_dats _), fun t => all_lay t.items, fun t => all_nod t.items, 1, fun t => Nat.succ_le_succ (all_depth t.items), fun s t => by
  refine (all_eqv s.items t.items).trans (decide_eq_decide.mpr ⟨fun h => ?_, fun h => by rw [h]⟩)
  cases s
  cases t
  have h : _ = _ := h
  rw [TupI.mk.injEq]
  exact h, fun _ => ⟨rfl, rfl⟩⟩
end AP
set_option maxHeartbeats 4000000
/-! New results by x if b else y; what is never come to; walks over tuples of numbers. -/
namespace AP
open PySem PySem.Spec PyProof.Rows L2 Evl
end AP
set_option maxHeartbeats 4000000
/-! Several lists of numbers that are changed by turns: made at once, read as a whole between two changes, a number popped off one put behind another. -/
namespace AP
open PySem PySem.Spec PyProof.Rows L2 Evl
section
variable {K : PySem.W.Frag} {G : Option Addr} {c c0 c1 c2 c3 : Nat} {te ta tb tc tr : TE} {tt : TT} {t : TS} {Γ : AP.Ctx} {α β : Type} [Py α] [Py β] {A : α → Prop} {B B' H H' B0 H0 : Hp} {v w : V} {σ : L2.St} {z z' z0 : Int} {D : Ends} {tz : TS}
/-- what stood before stays known as such; changed lists keep their places -/
inductive AgeR (B1 : Hp) : Ctx → Ctx → Prop
  | nil : AgeR B1 [] []
  | cons {α : Type} [Py α] (x : α) {Γ Γ' : Ctx} : AgeR B1 Γ Γ' → AgeR B1 (some (Py.is x) :: Γ) (some (Py.is (OldV.mk x : OldV B1 α)) :: Γ')
  | ref (l : Addr) {Γ Γ' : Ctx} : AgeR B1 Γ Γ' → AgeR B1 (some (RefP l) :: Γ) (some (RefP l) :: Γ')
  | skip {o : Option VP} {Γ Γ' : Ctx} : AgeR B1 Γ Γ' → AgeR B1 (o :: Γ) (none :: Γ')
theorem AgeR.ok {B1 : Hp} {Γ Γ' : Ctx} (a : AgeR B1 Γ Γ') : Γ'.length = Γ.length ∧ ∀ (k : Nat) (P2 : VP), Γ'[k]? = some (some P2) → ∃ P : VP, Γ[k]? = some (some P) ∧ Stays P2 ∧ ∀ v, P v B1 → P2 v B1 := by
  induction a with
  | nil => exact ⟨rfl, fun k P2 h => by simp at h⟩
  | cons x _ ih =>
    refine ⟨by simp [ih.1], fun k P2 h => ?_⟩
    cases k with
    | zero => cases h; exact ⟨_, rfl, Py.stays _, fun v h => ⟨h, h⟩⟩
    | succ k => exact ih.2 k P2 h
  | ref l _ ih =>
    refine ⟨by simp [ih.1], fun k P2 h => ?_⟩
    cases k with
    | zero => cases h; exact ⟨_, rfl, RefP.stays, fun v h => h⟩
    | succ k => exact ih.2 k P2 h
  | skip _ ih =>
    refine ⟨by simp [ih.1], fun k P2 h => ?_⟩
    cases k with
    | zero => cases h
    | succ k => exact ih.2 k P2 h
theorem Slo.ageR {Γ' : Ctx} (en : Slo B σ Γ) (a : AgeR B Γ Γ') : Slo B σ Γ' := en.sink a.ok.1 a.ok.2
theorem ref_ne {l l2 : Addr} {H : Hp} {o : HO} (h : H l = some o) (h2 : H l2 = none) : l ≠ l2 := fun e => by rw [e, h2] at h; cases h
theorem tn_nil : TyN G 0 (tLst tNil) Γ (· = ([] : List Int)) := fun z B σ H en s hz Q q => ⟨by show 0 ≤ sizeLine; exact Nat.zero_le _, fun p hp => by
  have p0 : B p = none := by
    cases e0 : B p with
    | none => rfl
    | some o => rw [s.ex _ _ e0] at hp; cases hp
  exact q [] _ _ _ _ rfl (Nx.alloc s hp) ⟨p, [], rfl, by unfold diff; rw [if_pos p0, upd_same], .nil⟩⟩
/-- what a changed list is known by -/
structure Gro (H0 B H : Hp) (l : Addr) (xs : List Int) : Prop where
  hl : H l = some (.lst (xs.map V.int))
  nl : B l = none
  n0 : H0 l = none
theorem Gro.step {xs : List Int} {l : Addr} (g : Gro H0 B H l xs) (s0 : At G z0 B0 H0) (n : Nx G c z B H z' B' H') : Gro H0 B' H' l xs := by
  have k := n.keepL (s0.ne g.n0) g.hl g.nl
  exact ⟨k.1, k.2, g.n0⟩
theorem gro_of {xs : List Int} {l : Addr} {us : List V} {B2 : Hp} (e1 : H' l = some (.lst us)) (e2 : B2 l = none) (e3 : H0 l = none) (e4 : Each B2 xs us) : Gro H0 B2 H' l xs := ⟨by rw [e1, e4.ints], e2, e3⟩
theorem TyN.gro {A : List Int → Prop} (s0 : At G z0 B0 H0) (n : Nx G c0 z0 B0 H0 z B H) (en : Slo B σ Γ) (h : TyN G c te Γ A) (hz : z0 + (c0 + c) ≤ 2 ^ 50) (Q : VK)
    (q : ∀ xs l z' B' H', A xs → H l = none → Gro H0 B' H' l xs → Nx G c z B H z' B' H' → Q (.ref l) H') : te σ H Q :=
  h z B σ H en n.at_ (by have := n.hi; omega) Q fun x v z1 B1 H1 ax n1 hv => by
    obtain ⟨l, us, B2, rfl, e1, e2, e3, e4, n2, _⟩ := n1.split hv
    exact q x l z1 B2 H1 ax e3 (gro_of e1 e2 (n.gone s0 e3) e4) n2
/-! ### a while that reads lists which its body changes -/
end
end AP
set_option maxHeartbeats 4000000
/-! A sum of two lists that grows on. -/
namespace AP
open PySem PySem.Spec PyProof.Rows L2 Evl
section
variable {K : PySem.W.Frag} {G : Option Addr} {c c0 c1 c2 c3 : Nat} {te ta tb tc tr : TE} {tt : TT} {t : TS} {Γ : AP.Ctx} {α β : Type} [Py α] [Py β] {A : α → Prop} {B B' H H' B0 H0 : Hp} {v w : V} {σ : L2.St} {z z' z0 : Int} {D : Ends} {tz : TS}
theorem q_catS {xs ys : List α} (s0 : At G z0 B0 H0) (n : Nx G c0 z0 B0 H0 z B H) (en : Slo B σ Γ) {i : Nat} (h1 : Ty G c1 ta Γ (· = xs)) (h2 : Ty G c2 tb Γ (· = ys)) (small : xs.length + ys.length ≤ 100000) (hz : z0 + (c0 + (c1 + c2)) ≤ 2 ^ 50)
    (k : ∀ us l z' B' H' σ', H' l = none → Nx G (c0 + (c1 + c2)) z0 B0 H0 z' B' (upd H' l (.lst us)) → Slo B' σ' (Γ.set i (some (RefP l))) → B' l = none → H0 l = none → Each B' (xs ++ ys) us → Nx G (c1 + c2) z B H z' B' (upd H' l (.lst us)) → tz D σ' (upd H' l (.lst us))) :
    tSeq (tAsg (tOp rCat ta tb) (gName i)) tz D σ H := by
  refine h1 z B σ H en n.at_ (by have := n.hi; omega) _ fun x v z1 B1 H1 ax n1 hv => ?_
  refine h2 z1 B1 σ H1 (en.up n1.up) n1.at_ (by have := n.hi; have := n1.hi; omega) _ fun y w z2 B2 H2 ay n2 hw => ?_
  subst ax ay
  have hv := Py.st _ _ _ _ n2.up hv
  obtain ⟨p, us, rfl, e1, e2⟩ := hv
  obtain ⟨q, vs, rfl, e3, e4⟩ := hw
  have nn := n1.trans n.at_ n2
  refine ⟨p, q, us, vs, rfl, rfl, n2.at_.ex _ _ e1, n2.at_.ex _ _ e3, sz_of (by rw [e2.len, e4.len]; exact small), fun l hl => ?_⟩
  have m := nn.trans n.at_ (Nx.more n2.at_ (Ex.new (o := .lst (us ++ vs)) hl))
  refine k (us ++ vs) l z2 B2 H2 _ hl ((n.trans s0 m).le (by omega)) ((en.up nn.up).set RefP.stays rfl) ?_ ((n.trans s0 nn).gone s0 hl) (e2.app e4) (m.le (by omega))
  cases e : B2 l with
  | none => rfl
  | some o => rw [n2.at_.ex _ _ e] at hl; cases hl
end
end AP
set_option maxHeartbeats 4000000
/-! any of whole numbers; != of truth values. -/
namespace AP
open PySem PySem.Spec PyProof.Rows L2 Evl
end AP
set_option maxHeartbeats 4000000
/-! Three names at once, the second one a new list that is told with its place. -/
namespace AP
open PySem PySem.Spec PyProof.Rows L2 Evl
end AP
set_option maxHeartbeats 4000000
/-! list(zip(xs, ys)): the tuples handed out are kept. -/
namespace AP
open PySem PySem.Spec PyProof.Rows L2 Evl
/-- a zip some of whose tuples, Ts, are kept in the list at S -/
structure ZK (z TI TO i1 i2 l1 l2 S : Addr) (xs ys : Array Value) (N0 : Nat) (Ts : List Addr) (h : Heap) : Prop where
  pair : IsPair h TI (.ref i1) (.ref i2)
  it1 : h.IsListIter i1 l1 Ts.length
  it2 : h.IsListIter i2 l2 Ts.length
  li1 : h.IsList l1 xs
  li2 : h.IsList l2 ys
  own : ∃ o, h.get? TO = some o
  zip : (IsZip h z TI TO .none ∧ ∃ a b, IsPair h TO a b) ∨ ∃ T f oT, IsZipHeld h z TI TO T f ∧ h.get? T = some oT ∧ T ≠ z ∧ T ≠ i1 ∧ T ≠ i2 ∧ T ≠ S
  size : N0 ≤ h.objs.size
  nd : Ts.Nodup
  tups : ∀ (j : Nat) T, Ts[j]? = some T → (T ≠ z ∧ T ≠ TO ∧ T ≠ i1 ∧ T ≠ i2 ∧ T ≠ S) ∧ N0 ≤ T ∧ ∃ x y, xs[j]? = some x ∧ ys[j]? = some y ∧ IsPair h T x y
section
variable {prog : Program} {w : World} {A : Around} {E : Value → Shared → Prop} {s : Shared} {R : Result → Shared → Prop}
variable {z TI TO i1 i2 l1 l2 S : Addr} {xs ys : Array Value} {N0 : Nat} {Ts : List Addr} {h h' : Heap}
theorem ZK.type (st : ZK z TI TO i1 i2 l1 l2 S xs ys N0 Ts s.heap) : s.TypeIs (.ref z) "zip" := by
  rcases st.zip with ⟨hz, _⟩ | ⟨T, f, oT, hz, _⟩
  · exact ⟨_, hz, rfl⟩
  · exact ⟨_, hz, rfl⟩
end
end AP
set_option maxHeartbeats 4000000
/-! list(zip(xs, ys)) as an expression: a new list of pairs. -/
namespace AP
open PySem PySem.Spec PyProof.Rows L2 Evl
/-! ### for a, b in a list of pairs -/
end AP
set_option maxHeartbeats 4000000
/-! xs.remove(e); two and three names from a list; comprehensions with drawn tests; sorted lists of lists; list(x) for the keys of a dict of tuples; two names at once, the second a new list. -/
namespace AP
open PySem PySem.Spec PyProof.Rows L2 Evl PySem.W
/-! ### remove -/
section
variable {K : PySem.W.Frag} {G : Option Addr} {c c0 c1 c2 c3 ct : Nat} {te ta tb tc tl : TE} {tt : TT} {Γ : AP.Ctx} {α β γ : Type} [Py α] [Py β] [Py γ] {A : α → Prop} {A1 : List Int → Prop} {B B' H B0 H0 : Hp} {σ : L2.St} {z z0 : Int} {D : Ends} {tz : TS}
/-! ### names from a list -/
/-- a list of three that are not alike -/
structure T3L (α β γ : Type) where
  a : α
  b : β
  c : γ
instance : Py (T3L α β γ) := ⟨fun x v B => ∃ p a b c, v = .ref p ∧ B p = some (.lst [a, b, c]) ∧ Py.is x.a a B ∧ Py.is x.b b B ∧ Py.is x.c c B,
  fun _ _ _ _ e ⟨p, a, b, c, h1, h2, h3, h4, h5⟩ => ⟨p, a, b, c, h1, e _ _ h2, Py.st _ _ _ _ e h3, Py.st _ _ _ _ e h4, Py.st _ _ _ _ e h5⟩⟩
/-! ### a comprehension whose test is drawn -/
/-! ### an option that is some -/
/-! ### two names at once, the second one a new list -/
/-! ### list(x) for the keys of a dict of tuples -/
/-! ### sorted lists of lists of numbers -/
inductive LstsAt (B : Hp) : List (V × List Int) → Prop
  | nil : LstsAt B []
  | cons {p : Addr} {ns : List Int} {l : List (V × List Int)} : B p = some (.lst (ns.map V.int)) → LstsAt B l → LstsAt B ((.ref p, ns) :: l)
theorem LstsAt.mem {B : Hp} : ∀ {l : List (V × List Int)}, LstsAt B l → ∀ e ∈ l, ∃ p, e.1 = .ref p ∧ B p = some (.lst (e.2.map V.int))
  | _, .cons (p := p) h r, e, he => by
    rcases List.mem_cons.mp he with rfl | he
    · exact ⟨p, rfl, h⟩
    · exact r.mem e he
end
/-! ### right(generator(script, 3)) -/
end AP
set_option maxHeartbeats 4000000
/-! dict(xs) of pairs; sorted(d) of a dict of numbers. -/
namespace AP
open PySem PySem.Spec PySem.Calls PyProof.Rows PyProof.V L2 Evl PySem.W
/-! ### sorted(d) -/
/-- the only ascending list of these -/
def sortI (xs : List Int) : List Int := xs.mergeSort fun a b => decide (a ≤ b)
theorem sortI_perm (xs : List Int) : (sortI xs).Perm xs := List.mergeSort_perm xs _
theorem sortI_asc (xs : List Int) : (sortI xs).Pairwise (· ≤ ·) := (List.pairwise_mergeSort (le := fun a b : Int => decide (a ≤ b)) (fun a b c h1 h2 => by simp at *; omega) (fun a b => by simp; omega) xs).imp fun h => of_decide_eq_true h
theorem sortI_is {xs l : List Int} (p : l.Perm xs) (h : l.Pairwise (· ≤ ·)) : l = sortI xs := asc_unique h (sortI_asc xs) (p.trans (sortI_perm xs).symm)
theorem sortI_id {xs : List Int} (h : xs.Pairwise (· < ·)) : sortI xs = xs := (sortI_is (List.Perm.refl _) (h.imp fun q => by omega)).symm
end AP
set_option maxHeartbeats 4000000
/-! Items lists by their numbers: the last item counts single ones. -/
namespace AP
open PySem PySem.Spec PyProof.Rows L2 Evl
/-! greater numbers, greater lists -/
end AP
namespace AP
open PySem PySem.Spec PyProof.Rows L2 Evl
end AP
set_option maxHeartbeats 4000000
/-! Codes within codes: a code of fewer items, by noughts behind. -/
namespace AP
theorem newt_null {x : Int} : ∀ (od : List Int) (n : Nat), newt od (List.replicate n 0) x = 0
  | [], 0 => rfl
  | _ :: _, 0 => rfl
  | [], n + 1 => rfl
  | o :: od, n + 1 => by
    show 0 + (x - o) * newt od (List.replicate n 0) x = 0
    rw [newt_null od n, Int.mul_zero]
    rfl
theorem newt_zeros {x : Int} : ∀ (od ds : List Int) (n : Nat), newt od (ds ++ List.replicate n 0) x = newt od ds x
  | od, [], n => by
    rw [List.nil_append, newt_null]
    cases od <;> rfl
  | [], d :: ds, n => rfl
  | o :: od, d :: ds, n => by
    show d + (x - o) * newt od (ds ++ List.replicate n 0) x = d + (x - o) * newt od ds x
    rw [newt_zeros od ds n]
theorem words_zeros {wd : Int} {ps ds : List Int} (n : Nat) : wordsL wd ps (ds ++ List.replicate n 0) = wordsL wd ps ds := by
  unfold wordsL
  exact List.map_congr_left fun x _ => by rw [newt_zeros]
end AP
set_option maxHeartbeats 4000000
/-! All polynomials of m coefficients, and the code of count m. -/
namespace AP
end AP
set_option maxHeartbeats 4000000
/-! The least count of words. -/
namespace AP
end AP
set_option maxHeartbeats 4000000
/-! The lowest bits of codewords, by their items. -/
namespace AP
open PySem PySem.Spec PyProof.Rows L2 Evl
theorem mul_dvd_low {b n p d : Int} (n0 : 0 ≤ n) (h1 : ((2 : Int) ^ n.toNat) ∣ p) (h2 : ((2 : Int) ^ (b - n).toNat) ∣ d) : ((2 : Int) ^ b.toNat) ∣ p * d := by
  have := Int.mul_dvd_mul h1 h2
  rw [← Int.pow_add] at this
  exact Int.dvd_trans (pow_dvd_pow (by omega)) this
theorem newt_dvd {b : Int} : ∀ {pre o ns : List Int}, Along pre o ns → (pre ++ o).Nodup → ∀ {es : List Int}, es.length ≤ o.length →
    ((∀ x ∈ o, ((2 : Int) ^ b.toNat) ∣ prodTo x pre * newt o es x) ↔ ∀ j : Nat, ((2 : Int) ^ (b - ns.getD j 0).toNat) ∣ es.getD j 0) := by
  intro pre o ns al
  induction al with
  | nil =>
    intro _ es l
    have a : es = [] := List.length_eq_zero_iff.mp (Nat.le_zero.mp l)
    subst a
    exact ⟨fun _ j => Int.dvd_zero _, fun _ x hx => by cases hx⟩
  | @cons pre o ns a h1 h2 ih =>
    intro nd es l
    have nin : a ∉ pre := fun hm => (List.nodup_append.mp nd).2.2 a hm a List.mem_cons_self rfl
    have tn := twosTo_nonneg a pre
    have div : ∀ x ∈ a :: o, ((2 : Int) ^ (twosTo a pre).toNat) ∣ prodTo x pre := fun x hx => by
      have nin : x ∉ pre := fun h => (List.nodup_append.mp nd).2.2 x h x hx rfl
      have := h1 x hx
      have t := twos_prod nin
      exact dvd_twos (.inr (by omega))
    have nd2 : (pre ++ [a] ++ o).Nodup := by rw [List.append_assoc]; exact nd
    cases es with
    | nil => exact ⟨fun _ j => Int.dvd_zero _, fun _ x _ => by show _ ∣ prodTo x pre * 0; rw [Int.mul_zero]; exact Int.dvd_zero _⟩
    | cons d r =>
      have ih := ih nd2 (es := r) (by simpa using l)
      have first : ((2 : Int) ^ (b - twosTo a pre).toNat) ∣ d → ∀ x ∈ a :: o, ((2 : Int) ^ b.toNat) ∣ prodTo x pre * d := fun hd x hx => mul_dvd_low tn (div x hx) hd
      have split : ∀ x, prodTo x pre * newt (a :: o) (d :: r) x = prodTo x pre * d + prodTo x (pre ++ [a]) * newt o r x := fun x => by
        show prodTo x pre * (d + (x - a) * newt o r x) = _
        rw [Int.mul_add, prodTo_snoc, Int.mul_assoc]
      constructor
      · intro h
        have h0 := h a List.mem_cons_self
        rw [split, prodTo_zero (x := a) (l := pre ++ [a]) (by simp), Int.zero_mul, Int.add_zero] at h0
        have hd : ((2 : Int) ^ (b - twosTo a pre).toNat) ∣ d := by
          by_cases q : twosTo a pre ≤ b
          · have := two_cancel (prodTo_ne nin) h0 (by rw [twos_prod nin]; omega)
            rw [twos_prod nin, show b.toNat - (twosTo a pre).toNat = (b - twosTo a pre).toNat by omega] at this
            exact this
          · rw [show (b - twosTo a pre).toNat = 0 by omega]
            exact Int.one_dvd d
        have rest := ih.mp fun x hx => by
          have h3 := h x (List.mem_cons_of_mem _ hx)
          rw [split] at h3
          have := Int.dvd_sub h3 (first hd x (List.mem_cons_of_mem _ hx))
          rwa [show prodTo x pre * d + prodTo x (pre ++ [a]) * newt o r x - prodTo x pre * d = prodTo x (pre ++ [a]) * newt o r x by omega] at this
        intro j
        cases j with
        | zero => exact hd
        | succ j => exact rest j
      · intro h x hx
        rw [split]
        refine Int.dvd_add (first (h 0) x hx) ?_
        by_cases q : x = a
        · rw [prodTo_zero (by rw [q]; simp), Int.zero_mul]
          exact Int.dvd_zero _
        · exact ih.mpr (fun j => h (j + 1)) x ((List.mem_cons.mp hx).resolve_left q)
def subL (ds es : List Int) : List Int := (ds.zip es).map fun e : Int × Int => e.1 - e.2
theorem newt_sub {x : Int} : ∀ (o ds es : List Int), ds.length = es.length → newt o (subL ds es) x = newt o ds x - newt o es x
  | [], ds, es, h => by
    cases ds <;> cases es <;> first | rfl | cases h
  | a :: o, [], [], _ => rfl
  | a :: o, d :: ds, e :: es, h => by
    have ih := newt_sub (x := x) o ds es (Nat.succ.inj h)
    show (d - e) + (x - a) * newt o (subL ds es) x = (d + (x - a) * newt o ds x) - (e + (x - a) * newt o es x)
    rw [ih, Int.mul_sub]
    omega
theorem sub_getD : ∀ {ds es : List Int}, ds.length = es.length → ∀ j : Nat, (subL ds es).getD j 0 = ds.getD j 0 - es.getD j 0
  | [], [], _, j => rfl
  | d :: ds, e :: es, h, 0 => rfl
  | d :: ds, e :: es, h, j + 1 => sub_getD (ds := ds) (es := es) (Nat.succ.inj h) j
theorem sub_len {ds es : List Int} (h : ds.length = es.length) : (subL ds es).length = ds.length := by
  unfold subL
  rw [List.length_map, List.length_zip]
  omega
/-- when two items lists have the same words -/
theorem words_low_iff {b : Int} {ps ds es : List Int} (nd : ps.Nodup) (h : ds.length = es.length) (hl : ds.length ≤ ps.length) :
    wordsL b ps ds = wordsL b ps es ↔ ∀ j : Nat, ((2 : Int) ^ (b - (numbersOf ps).getD j 0).toNat) ∣ ds.getD j 0 - es.getD j 0 := by
  have pm := order_perm nd
  have k := newt_dvd (b := b) (order_along nd) (by simpa using (pm.nodup_iff.mpr nd)) (es := subL ds es) (by rw [sub_len h, pm.length_eq]; exact hl)
  have s : (∀ j : Nat, ((2 : Int) ^ (b - (numbersOf ps).getD j 0).toNat) ∣ (subL ds es).getD j 0) ↔ ∀ j : Nat, ((2 : Int) ^ (b - (numbersOf ps).getD j 0).toNat) ∣ ds.getD j 0 - es.getD j 0 :=
    ⟨fun h2 j => by rw [← sub_getD h]; exact h2 j, fun h2 j => by rw [sub_getD h]; exact h2 j⟩
  rw [← s, ← k]
  unfold wordsL
  constructor
  · intro e x hx
    have := List.map_inj_left.mp e x (pm.mem_iff.mp hx)
    show _ ∣ 1 * _
    rw [Int.one_mul, newt_sub _ _ _ h]
    exact Int.dvd_of_emod_eq_zero (Int.emod_eq_emod_iff_emod_sub_eq_zero.mp this)
  · intro e
    refine List.map_congr_left fun x hx => ?_
    have := e x (pm.mem_iff.mpr hx)
    rw [show prodTo x [] = 1 from rfl, Int.one_mul, newt_sub _ _ _ h] at this
    exact Int.emod_eq_emod_iff_emod_sub_eq_zero.mpr (Int.emod_eq_zero_of_dvd this)
/-- lists of numbers e + 2 ^ c * t, t below 2 ^ f -/
def spreadL : List (Int × Int × Int) → List (List Int)
  | [] => [[]]
  | p :: r => (spreadL r).flatMap fun l => (rg1 (2 ^ p.1.toNat)).map fun t => (p.2.2 + 2 ^ p.2.1.toNat * t) :: l
theorem spread_mem : ∀ (T : List (Int × Int × Int)) (l : List Int), l ∈ spreadL T ↔ l.length = T.length ∧ ∀ (j : Nat) (p : Int × Int × Int) (x : Int), T[j]? = some p → l[j]? = some x → ∃ t, (0 ≤ t ∧ t < 2 ^ p.1.toNat) ∧ x = p.2.2 + 2 ^ p.2.1.toNat * t
  | [], l => by
    constructor
    · intro h
      rw [List.mem_singleton.mp h]
      exact ⟨rfl, fun j p x h => by cases h⟩
    · rintro ⟨h, _⟩
      rw [List.length_eq_zero_iff.mp h]
      exact List.mem_singleton.mpr rfl
  | q :: r, l => by
    constructor
    · intro h
      obtain ⟨l0, h0, h⟩ := List.mem_flatMap.mp h
      obtain ⟨t, ht, rfl⟩ := List.mem_map.mp h
      obtain ⟨i1, i2⟩ := (spread_mem r l0).mp h0
      refine ⟨by rw [List.length_cons, List.length_cons, i1], fun j p x hp hx => ?_⟩
      cases j with
      | zero =>
        cases hp; cases hx
        exact ⟨t, rg1_mem' ht, rfl⟩
      | succ j => exact i2 j p x hp hx
    · rintro ⟨h1, h2⟩
      cases l with
      | nil => cases h1
      | cons x l =>
        obtain ⟨t, ht, rfl⟩ := h2 0 q x rfl rfl
        refine List.mem_flatMap.mpr ⟨l, (spread_mem r l).mpr ⟨Nat.succ.inj h1, fun j p y hp hy => h2 (j + 1) p y hp hy⟩, List.mem_map.mpr ⟨t, ?_, rfl⟩⟩
        unfold rg1
        exact List.mem_map.mpr ⟨t.toNat, List.mem_range.mpr (by omega), by omega⟩
/-- congruent numbers in a range -/
theorem range_iff {x e : Int} {m c : Nat} (hc : c ≤ m) (e0 : 0 ≤ e) (e1 : e < 2 ^ c) : ((0 ≤ x ∧ x < 2 ^ m) ∧ ((2 : Int) ^ c) ∣ x - e) ↔ ∃ t, (0 ≤ t ∧ t < 2 ^ (m - c)) ∧ x = e + 2 ^ c * t := by
  have tp : (0 : Int) < 2 ^ c := Int.pow_pos (by decide)
  have sp : (2 : Int) ^ m = 2 ^ c * 2 ^ (m - c) := by rw [← Int.pow_add]; congr 1; omega
  constructor
  · rintro ⟨⟨x0, x1⟩, t, ht⟩
    have hx : x = e + 2 ^ c * t := by omega
    refine ⟨t, ⟨?_, ?_⟩, hx⟩
    · refine Int.not_lt.mp fun h => ?_
      have := Int.mul_le_mul_of_nonneg_left (show t ≤ -1 by omega) (Int.le_of_lt tp)
      omega
    · refine Int.not_le.mp fun h => ?_
      have := Int.mul_le_mul_of_nonneg_left h (Int.le_of_lt tp)
      omega
  · rintro ⟨t, ⟨t0, t1⟩, rfl⟩
    have a := Int.mul_nonneg (Int.le_of_lt tp) t0
    have b := Int.mul_le_mul_of_nonneg_left (show t + 1 ≤ 2 ^ (m - c) by omega) (Int.le_of_lt tp)
    rw [Int.mul_add, Int.mul_one] at b
    refine ⟨⟨by omega, by omega⟩, t, by omega⟩
end AP
set_option maxHeartbeats 4000000
/-! The codewords above given lowest bits: which items they have, how many there are, and that the first has the least number. -/
namespace AP
open PySem PySem.Spec PyProof.Rows L2 Evl
def padL (n : Nat) (es : List Int) : List Int := es ++ List.replicate (n - es.length) 0
theorem pad_len {n : Nat} {es : List Int} (h : es.length ≤ n) : (padL n es).length = n := by
  unfold padL
  rw [List.length_append, List.length_replicate]
  omega
theorem pad_getD {n j : Nat} {es : List Int} : (padL n es).getD j 0 = es.getD j 0 := by
  unfold padL
  rw [List.getD_eq_getElem?_getD, List.getD_eq_getElem?_getD]
  by_cases q : j < es.length
  · rw [List.getElem?_append_left q]
  · rw [List.getElem?_append_right (by omega), List.getElem?_eq_none (l := es) (by omega), List.getElem?_replicate]
    split <;> rfl
def aboveT (wd b : Int) (ns es : List Int) (K : Nat) : List (Int × Int × Int) := (List.range K).map fun k => (min (wd - ns.getD k 0) (wd - b), b - ns.getD k 0, es.getD k 0)
theorem above_get {wd b : Int} {ns es : List Int} {K j : Nat} : (aboveT wd b ns es K)[j]? = if j < K then some (min (wd - ns.getD j 0) (wd - b), b - ns.getD j 0, es.getD j 0) else none := by
  unfold aboveT
  rw [List.getElem?_map]
  split
  · rw [List.getElem?_range (by omega)]; rfl
  · rw [List.getElem?_eq_none (by rw [List.length_range]; omega)]; rfl
structure Low (wd b ct : Int) (ps es : List Int) : Prop where
  b1 : 1 ≤ b
  bw : b ≤ wd
  w64 : wd ≤ 64
  nd : ps.Nodup
  ok : ItemsOk (bitsL b (numbersOf ps) ct) es
theorem counted_mono {a b ct : Int} {ns : List Int} (h : a ≤ b) : (countedL a ns ct).length ≤ (countedL b ns ct).length := by
  unfold countedL
  generalize ns.take ct.toNat = l
  induction l with
  | nil => exact Nat.le_refl _
  | cons x l ih =>
    by_cases q : x < a
    · rw [List.filter_cons_of_pos (by simpa using q), List.filter_cons_of_pos (by simp; omega), List.length_cons, List.length_cons]
      omega
    · rw [List.filter_cons_of_neg (by simpa using q)]
      by_cases q2 : x < b
      · rw [List.filter_cons_of_pos (by simpa using q2), List.length_cons]
        omega
      · rw [List.filter_cons_of_neg (by simpa using q2)]
        exact ih
section
variable {wd b ct : Int} {ps es : List Int}
def manyL (wd ct : Int) (ps : List Int) : Nat := (countedL wd (numbersOf ps) ct).length
theorem Low.len (L : Low wd b ct ps es) : es.length ≤ manyL wd ct ps := by
  rw [((items_ix L.nd).mp L.ok).1]
  exact counted_mono L.bw
theorem many_ps (nd : ps.Nodup) : manyL wd ct ps ≤ ps.length := by
  have := counted_sub wd (numbersOf ps) ct
  rw [numbers_len nd] at this
  exact this
theorem many_lt (nd : ps.Nodup) {j : Nat} (h : j < manyL wd ct ps) : 0 ≤ (numbersOf ps).getD j 0 ∧ (numbersOf ps).getD j 0 < wd := by
  have cs := counted_sub wd (numbersOf ps) ct
  have hj : j < (numbersOf ps).length := Nat.lt_of_lt_of_le h cs
  have hm : (numbersOf ps).getD j 0 ∈ countedL wd (numbersOf ps) ct := by
    have e := counted_take (wd := wd) (m := ct) (numbers_asc nd)
    rw [e]
    refine List.mem_take_iff_getElem.mpr ⟨j, by unfold manyL at h; omega, ?_⟩
    rw [List.getD_eq_getElem?_getD, List.getElem?_eq_getElem hj]
    rfl
  exact ⟨numbers_nn nd _ (counted_mem hm).1, (counted_mem hm).2⟩
theorem Low.small (L : Low wd b ct ps es) (j : Nat) : 0 ≤ es.getD j 0 ∧ es.getD j 0 < 2 ^ (b - (numbersOf ps).getD j 0).toNat := by
  by_cases q : j < es.length
  · have := ((items_ix L.nd).mp L.ok).2 j _ (List.getElem?_eq_getElem q)
    rw [List.getD_eq_getElem?_getD, List.getElem?_eq_getElem q]
    exact this.2
  · rw [List.getD_eq_getElem?_getD, List.getElem?_eq_none (by omega)]
    exact ⟨Int.le_refl _, Int.pow_pos (by decide)⟩
theorem pad_words {n : Nat} : wordsL b ps (padL n es) = wordsL b ps es := words_zeros _
theorem Low.mem (L : Low wd b ct ps es) (ds : List Int) : ds ∈ spreadL (aboveT wd b (numbersOf ps) es (manyL wd ct ps)) ↔ ItemsOk (bitsL wd (numbersOf ps) ct) ds ∧ wordsL b ps ds = wordsL b ps es := by
  have bw := L.bw
  have tl : (aboveT wd b (numbersOf ps) es (manyL wd ct ps)).length = manyL wd ct ps := by unfold aboveT; rw [List.length_map, List.length_range]
  rw [spread_mem, tl, items_ix L.nd]
  have key : ∀ j, j < manyL wd ct ps → ∀ x : Int, ((∃ t, (0 ≤ t ∧ t < 2 ^ (min (wd - (numbersOf ps).getD j 0) (wd - b)).toNat) ∧ x = es.getD j 0 + 2 ^ (b - (numbersOf ps).getD j 0).toNat * t) ↔ ((0 ≤ x ∧ x < 2 ^ (wd - (numbersOf ps).getD j 0).toNat) ∧ ((2 : Int) ^ (b - (numbersOf ps).getD j 0).toNat) ∣ x - es.getD j 0)) := fun j hj x => by
    have n := many_lt L.nd hj
    rw [range_iff (by omega) (L.small j).1 (L.small j).2, show (wd - (numbersOf ps).getD j 0).toNat - (b - (numbersOf ps).getD j 0).toNat = (min (wd - (numbersOf ps).getD j 0) (wd - b)).toNat by omega]
  constructor
  · rintro ⟨h1, h2⟩
    have get : ∀ j d, ds[j]? = some d → (0 ≤ d ∧ d < 2 ^ (wd - (numbersOf ps).getD j 0).toNat) ∧ ((2 : Int) ^ (b - (numbersOf ps).getD j 0).toNat) ∣ d - es.getD j 0 := fun j d hd => by
      have hj : j < manyL wd ct ps := by rw [← h1]; exact (List.getElem?_eq_some_iff.mp hd).1
      exact (key j hj d).mp (h2 j _ d (by rw [above_get, if_pos hj]) hd)
    refine ⟨⟨h1, fun j d hd => ⟨?_, (get j d hd).1⟩⟩, ?_⟩
    · exact (many_lt L.nd (by rw [← h1]; exact (List.getElem?_eq_some_iff.mp hd).1)).2
    · rw [← pad_words (es := es) (n := manyL wd ct ps), words_low_iff L.nd (by rw [h1, pad_len L.len]) (by rw [h1]; exact many_ps L.nd)]
      intro j
      rw [pad_getD]
      by_cases q : j < ds.length
      · have := (get j _ (List.getElem?_eq_getElem q)).2
        rw [List.getD_eq_getElem?_getD (l := ds), List.getElem?_eq_getElem q]
        exact this
      · have := L.len
        rw [List.getD_eq_getElem?_getD (l := ds), List.getElem?_eq_none (by omega), List.getD_eq_getElem?_getD (l := es), List.getElem?_eq_none (by omega)]
        exact Int.dvd_zero _
  · rintro ⟨⟨h1, h2⟩, h3⟩
    have h1 : ds.length = manyL wd ct ps := h1
    refine ⟨h1, fun j p x hp hx => ?_⟩
    rw [above_get] at hp
    split at hp
    case isFalse => cases hp
    case isTrue hj =>
    cases hp
    rw [← pad_words (es := es) (n := manyL wd ct ps), words_low_iff L.nd (by rw [h1, pad_len L.len]) (by rw [h1]; exact many_ps L.nd)] at h3
    have h3 := h3 j
    rw [pad_getD, List.getD_eq_getElem?_getD (l := ds), hx] at h3
    exact (key j hj x).mpr ⟨(h2 j x hx).2, h3⟩
end
end AP
set_option maxHeartbeats 4000000
/-! Plans of any places. -/
namespace AP
open PySem PySem.Spec PyProof.Rows L2 Evl
structure PlsG (ps : List Int) : Prop where
  nd : ps.Nodup
  rg : ∀ x ∈ ps, 0 ≤ x ∧ x ≤ 2 ^ 64 - 1
theorem PlsG.nodup {ps : List Int} (h : PlsG ps) : ps.Nodup ∧ ∀ x ∈ ps, 0 ≤ x ∧ x ≤ 2 ^ 64 - 1 := ⟨h.nd, h.rg⟩
end AP
set_option maxHeartbeats 4000000
/-! Readings: objects whose fields are told by a call that reads the object itself. -/
namespace AP
open PySem PySem.Spec PyProof.Rows L2 Evl
/-- a reading: the plan of the places that are told, and what their words tell -/
structure ReadV where
  cls : Addr
  pl : PlanV
  found : Option (List Int)
  misfit : Option Int
instance : Obj' ReadV := ⟨ReadV.cls, fun p => [("plan", Py.is p.pl), ("found", Py.is p.found), ("misfit", Py.is p.misfit)]⟩
/-- the places told, ascending -/
def DictI.pt (d : DictI) : List Int := sortI (d.kvs.map (·.1))
/-- known words of places -/
structure KnOk (wd : Int) (ps : List Int) (kn : List (Int × Int)) : Prop where
  asc : (kn.map (·.1)).Pairwise (· < ·)
  sub : ∀ e ∈ kn, e.1 ∈ ps
  rg : ∀ e ∈ kn, 0 ≤ e.2 ∧ e.2 < 2 ^ wd.toNat
  len : kn.length ≤ 100
theorem KnOk.nd {wd : Int} {ps : List Int} {kn : List (Int × Int)} (h : KnOk wd ps kn) : (kn.map (·.1)).Nodup := h.asc.imp fun h q => by omega
theorem KnOk.pt {wd : Int} {ps : List Int} {kn : List (Int × Int)} (h : KnOk wd ps kn) : (DictI.mk kn).pt = kn.map (·.1) := sortI_id h.asc
/-- a told dict of words -/
structure ToldOk (wd : Int) (d : DictI) : Prop where
  nd : (d.kvs.map (·.1)).Nodup
  len : d.kvs.length ≤ 100
  rg : ∀ e ∈ d.kvs, 0 ≤ e.2 ∧ e.2 < 2 ^ wd.toNat
  small : ∀ e ∈ d.kvs, 0 ≤ e.1 ∧ e.1 ≤ 2 ^ 64 - 1
theorem KnOk.told {wd : Int} {ps : List Int} {kn : List (Int × Int)} (h : KnOk wd ps kn) (hs : ∀ x ∈ ps, 0 ≤ x ∧ x ≤ 2 ^ 64 - 1) : ToldOk wd (DictI.mk kn) := ⟨h.nd, h.len, h.rg, fun e he => hs _ (h.sub e he)⟩
end AP
set_option maxHeartbeats 4000000
/-! Comprehensions whose list is changed later; lists of pairs that are written at an index; tests that are drawn behind a told one. -/
namespace AP
open PySem PySem.Spec PyProof.Rows L2 Evl
section
variable {K : PySem.W.Frag} {G : Option Addr} {c c0 c1 c2 : Nat} {te ta ti tl : TE} {tt tu : TT} {g : TG} {Γ : AP.Ctx} {α β : Type} [Py α] [Py β] {A : α → Prop} {B B' H H' B0 H0 : Hp} {σ : L2.St} {z z' z0 : Int} {D : Ends} {tz : TS}
/-- a new list that is not known yet -/
def TyOpn (G : Option Addr) (c : Nat) (te : TE) (Γ : AP.Ctx) {α : Type} [Py α] (A : List α → Prop) : Prop :=
  ∀ z B σ H, Slo B σ Γ → At G z B H → z + c ≤ 2 ^ 50 → ∀ Q : VK, (∀ ys D us z' B' H', A ys → Nx G c z B H z' B' H' → H' D = some (.lst us) → B' D = none → H D = none → Each B' ys us → Q (.ref D) H') → te σ H Q
theorem TyOpn.imp {A A' : List α → Prop} (h : TyOpn G c te Γ A) (i : ∀ x, A x → A' x) : TyOpn G c te Γ A' := fun z B σ H en s hz Q q => h z B σ H en s hz Q fun ys D us z' B' H' a => q ys D us z' B' H' (i ys a)
end
end AP
set_option maxHeartbeats 4000000
/-! A dict of lists, by tuples of whole numbers: d.get(t, xs), d[t] = xs; it is changed by turns. -/
namespace AP
open PySem PySem.Spec PyProof.Rows L2 Evl
inductive EachDL (B : Hp) : List (TupI × List Int) → List (List L2.Key × V) → Prop
  | nil : EachDL B [] []
  | cons {t : TupI} {xs : List Int} {v : V} {r : List (TupI × List Int)} {us : List (List L2.Key × V)} (h : Py.is xs v B) (n : EachDL B r us) : EachDL B ((t, xs) :: r) ((keyI t, v) :: us)
def getT (kvs : List (TupI × List Int)) (t : TupI) : Option (List Int) := (kvs.find? fun e => decide (e.1 = t)).map (·.2)
def putT (kvs : List (TupI × List Int)) (t : TupI) (xs : List Int) : List (TupI × List Int) := if (kvs.any fun e => decide (e.1 = t)) = true then kvs.map (fun e => if e.1 = t then (e.1, xs) else e) else kvs ++ [(t, xs)]
section
variable {B B' : Hp} {kvs : List (TupI × List Int)} {us : List (List L2.Key × V)} {t : TupI}
theorem EachDL.ex (h : EachDL B kvs us) (e : Ex B B') : EachDL B' kvs us := by
  induction h with
  | nil => exact .nil
  | cons h _ ih => exact .cons (Py.st _ _ _ _ e h) ih
theorem EachDL.len (h : EachDL B kvs us) : us.length = kvs.length := by
  induction h with
  | nil => rfl
  | cons _ _ ih => rw [List.length_cons, List.length_cons, ih]
theorem key_dec {s t : TupI} : decide (keyI s = keyI t) = decide (s = t) := by
  by_cases e : s = t
  · rw [e, decide_eq_true rfl, decide_eq_true rfl]
  · rw [decide_eq_false e, decide_eq_false fun q => e (keyI_inj q)]
theorem EachDL.get (h : EachDL B kvs us) : (∃ y v, getT kvs t = some y ∧ valV us (keyI t) = some v ∧ Py.is y v B) ∨ (getT kvs t = none ∧ valV us (keyI t) = none) := by
  induction h with
  | nil => exact .inr ⟨rfl, rfl⟩
  | @cons s xs v r us h _ ih =>
    unfold getT valV at *
    rw [List.find?_cons, List.find?_cons, key_dec]
    by_cases e : s = t
    · rw [decide_eq_true e]
      exact .inl ⟨_, _, rfl, rfl, h⟩
    · rw [decide_eq_false e]
      exact ih
theorem EachDL.any (h : EachDL B kvs us) : (us.any fun kv => decide (kv.1 = keyI t)) = kvs.any fun e => decide (e.1 = t) := by
  induction h with
  | nil => rfl
  | cons _ _ ih => rw [List.any_cons, List.any_cons, ih, key_dec]
theorem EachDL.put {xs : List Int} {v : V} (h : EachDL B kvs us) (hv : Py.is xs v B) : EachDL B (putT kvs t xs) (putK us (keyI t) v) := by
  unfold putT putK
  rw [h.any]
  split
  · rename_i q
    clear q
    induction h with
    | nil => exact .nil
    | @cons s ys w r us h _ ih =>
      rw [List.map_cons, List.map_cons]
      by_cases e : s = t
      · subst e
        rw [if_pos rfl, if_pos rfl]
        exact .cons hv ih
      · rw [if_neg e, if_neg fun q => e (keyI_inj q)]
        exact .cons h ih
  · rename_i q
    clear q
    induction h with
    | nil => exact .cons hv .nil
    | cons h _ ih => exact .cons h ih
end
structure DicL where
  kvs : List (TupI × List Int)
instance : Py DicL := ⟨fun d v B => ∃ p us, v = .ref p ∧ B p = some (.dT us) ∧ EachDL B d.kvs us, fun _ _ _ _ e ⟨p, us, h1, h2, h3⟩ => ⟨p, us, h1, e _ _ h2, h3.ex e⟩⟩
end AP
set_option maxHeartbeats 4000000
/-! list(range(a, b)) of any whole numbers: short, but far off. -/
namespace AP.Big
open PySem PySem.Spec
end AP.Big
namespace AP
open PySem PySem.Spec PyProof.Rows L2 Evl
end AP
set_option maxHeartbeats 4000000
/-! t not in d, for a dict of tuples that is changed by turns; a new dict and a new list at once. -/
namespace AP
open PySem PySem.Spec PyProof.Rows L2 Evl
end AP
set_option maxHeartbeats 4000000
/-! sorted(lists of whole numbers): which list it is. -/
namespace AP
open PySem PySem.Spec PyProof.Rows L2 Evl PySem.W
end AP
set_option maxHeartbeats 4000000
/-! Two names at once, the first one a new list that is changed later. -/
namespace AP
open PySem PySem.Spec PyProof.Rows L2 Evl
section
variable {K : PySem.W.Frag} {G : Option Addr} {c c0 c1 c2 : Nat} {te ta tb : TE} {Γ : AP.Ctx} {β : Type} [Py β] {B B' H H' B0 H0 : Hp} {σ : L2.St} {z z' z0 : Int} {D : Ends} {tz : TS}
/-- a call by keywords, told from behind, whose result is new -/
theorem tn_callR {ι : Type} {C : Con ι β} {E : XK} {tk : TA} (i : ι) (hk : TyA G c tk Γ (C.args i).reverse) (p : C.pre i G) : TyN G (0 + c + C.c i) (tCallK C.spN (fun _ ks => ks.reverse) E tNil tk) Γ (C.post i) := fun z B σ H en s hz Q q => by
  refine hk z B σ H en s (by omega) _ fun ks z1 B1 H1 al n1 => ?_
  have al2 := al.rev
  rw [List.reverse_reverse] at al2
  exact ⟨i, G, z1, B1, al2, p, n1.at_, by have := n1.hi; omega, fun y w z2 B2 H2 py n2 hw => q y w z2 B2 H2 py ((n1.trans s n2).le (by omega)) (Py.st _ _ _ _ (diff_mono n1.up) hw)⟩
end
end AP
set_option maxHeartbeats 4000000
/-! A dict of numbers by numbers that grows: made of pairs, written, read as a whole between two writes. -/
namespace AP
open PySem PySem.Spec PyProof.Rows L2 Evl
structure EachK (B : Hp) (kvs : List (Int × Int)) (us : List (L2.Key × V)) : Prop where
  eq : us = kvs.map kvI
theorem EachK.ex {B B' : Hp} {kvs : List (Int × Int)} {us : List (L2.Key × V)} (h : EachK B kvs us) (_ : Ex B B') : EachK B' kvs us := ⟨h.eq⟩
def cutH (B : Hp) (l : Addr) : Hp := fun a => if a = l then none else B a
theorem cut_at {B : Hp} {l : Addr} : cutH B l l = none := if_pos rfl
theorem cut_ne {B : Hp} {l a : Addr} (h : a ≠ l) : cutH B l a = B a := if_neg h
section
variable {K : PySem.W.Frag} {G : Option Addr} {c c0 c1 c2 : Nat} {te ta tb tx tv : TE} {Γ : AP.Ctx} {β : Type} [Py β] {A : β → Prop} {B B' H H' B0 H0 : Hp} {σ : L2.St} {z z' z0 : Int} {D : Ends} {tz : TS}
theorem nx_cut {l : Addr} (n : Nx G c z0 B0 H0 z B H) (n0 : B0 l = none) : Nx G c z0 B0 H0 z (cutH B l) H := by
  refine ⟨⟨fun a o h => ?_, fun g hg => ⟨?_, (n.at_.gen g hg).2⟩⟩, fun a o h => ?_, fun a o h => ?_, n.lo, n.hi, n.keep⟩
  · unfold cutH at h
    split at h
    · cases h
    · exact n.at_.ex a o h
  · unfold cutH
    split
    · rfl
    · exact (n.at_.gen g hg).1
  · rw [cut_ne (fun e => by rw [e, n0] at h; cases h)]
    exact n.up a o h
  · unfold cutH at h
    split at h
    · cases h
    · exact n.new a o h
end
end AP
set_option maxHeartbeats 4000000
/-! sorted(pairs of whole numbers): which list it is; a new list of some items of another. -/
namespace AP
open PySem PySem.Spec PyProof.Rows L2 Evl PySem.W
section
variable {K : PySem.W.Frag} {G : Option Addr} {c c0 c1 c2 : Nat} {ta te tl : TE} {tt : TT} {Γ : AP.Ctx} {α β : Type} [Py α] [Py β]
theorem tn_lcL (fl : ∀ y : β, Flat (Py.is y)) {xs : List α} {p : α → Bool} {f : α → β} {j : Nat} {vs : List Nat} (h : Ty G c tl Γ (· = xs)) (hm : xs.length ≤ 40000) (hj : j ∈ vs)
    (ht : ∀ x, x ∈ xs → TyT G 0 tt ((wipeC Γ vs).set j (some (Py.is x))) (· = p x)) (he : ∀ x, x ∈ xs → p x = true → Ty G 0 te ((wipeC Γ vs).set j (some (Py.is x))) (· = f x)) :
    TyN G c (tLc (iList K tl) (gName j) tt te vs) Γ (· = (xs.filter p).map f) :=
  tn_lcS fl (ti_list h) hm (by simpa using hj) (fun i e hi => by rw [itm_eq hi]; exact ht _ (List.mem_of_getElem? hi)) fun i e hi hp => by rw [itm_eq hi]; exact he _ (List.mem_of_getElem? hi) hp
end
/-! ### in order -/
end AP
namespace AP
open PySem PySem.Spec PyProof.Rows L2 Evl PySem.W
section
variable {K : PySem.W.Frag} {G : Option Addr} {c c0 c1 c2 : Nat} {ta tb te : TE} {Γ : AP.Ctx} {β : Type} [Py β] {B B' H H' B0 H0 : Hp} {σ : L2.St} {z z' z0 : Int} {D : Ends} {tz : TS}
theorem ty_sortedI1 {xs : List Int} (h : Ty G c ta Γ (· = xs)) : Ty G (c + 0) (tCB (rSortedI K) (tCons ta tNil)) Γ (· = sortI xs) :=
  (ty_sortedN h).imp fun l ⟨ns, e, pm, so⟩ => sortI_is (e ▸ pm) so
end
end AP
set_option maxHeartbeats 4000000
/-! Tuples of whole numbers: written, put together, read by an index; a value and a new dict at once. -/
namespace AP
open PySem PySem.Spec PyProof.Rows L2 Evl
end AP
set_option maxHeartbeats 4000000
/-! break in a for. -/
namespace AP
open PySem PySem.Spec PyProof.Rows L2 Evl
end AP
set_option maxHeartbeats 4000000
/-! Two lists that grow and a value, at once. -/
namespace AP
open PySem PySem.Spec PyProof.Rows L2 Evl
section
variable {K : PySem.W.Frag} {G : Option Addr} {c c0 c1 c2 c3 : Nat} {te ta tb tc : TE} {Γ : AP.Ctx} {β : Type} [Py β] {B B' H H' B0 H0 : Hp} {σ : L2.St} {z z' z0 : Int} {D : Ends} {tz : TS}
theorem q_parT3LLX {i j k : Nat} {A1 A2 : List Int → Prop} {A3 : β → Prop} (s0 : At G z0 B0 H0) (n : Nx G c0 z0 B0 H0 z B H) (en : Slo B σ Γ) (h1 : TyN G c1 ta Γ A1) (h2 : TyN G c2 tb Γ A2) (h3 : Ty G c3 tc Γ A3) (hz : z0 + (c0 + (c1 + c2 + c3)) ≤ 2 ^ 50)
    (kk : ∀ x y u lx ly z' B' H' σ', A1 x → A2 y → A3 u → lx ≠ ly → Gro H0 B' H' lx x → Gro H0 B' H' ly y → Nx G (c1 + c2 + c3) z B H z' B' H' → Nx G (c0 + (c1 + c2 + c3)) z0 B0 H0 z' B' H' → Slo B' σ' (((Γ.set i (some (RefP lx))).set j (some (RefP ly))).set k (some (Py.is u))) → tz D σ' H') :
    tSeq (tAsg (tTup (tCons ta (tCons tb (tCons tc tNil)))) (gTup K 3 (gCons (gName i) (gCons (gName j) (gCons (gName k) gNil))))) tz D σ H := by
  refine TyN.gro s0 n en h1 (by omega) _ fun x lx z1 B1 H1 ax ex gx n1 => ?_
  have m1 := n.trans s0 n1
  refine TyN.gro s0 m1 (en.up n1.up) h2 (by omega) _ fun y ly z2 B2 H2 ay ey gy n2 => ?_
  have m2 := m1.trans s0 n2
  refine h3 z2 B2 σ H2 ((en.up n1.up).up n2.up) n2.at_ (by have := m2.hi; omega) _ fun u v z3 B3 H3 au n3 hv => ?_
  have gx2 := gx.step s0 n2
  refine ⟨sz_of (by simp), fun p hp => ⟨p, [.ref lx, .ref ly, v], rfl, st_of upd_same, rfl, _, _, rfl, _, _, rfl, _, _, rfl, rfl, ?_⟩⟩
  have n4 := Nx.more n3.at_ (Ex.new (o := .tup [.ref lx, .ref ly, v]) hp)
  have g1 := (gx2.step s0 n3).step s0 n4
  have g2 := (gy.step s0 n3).step s0 n4
  have nn := ((n1.trans n.at_ n2).trans n.at_ n3).trans n.at_ n4
  exact kk x y u lx ly _ _ _ _ ax ay au (ref_ne gx.hl ey) g1 g2 (nn.le (by omega)) ((n.trans s0 nn).le (by omega)) ((((((en.up n1.up).up n2.up).up n3.up).set RefP.stays rfl).set RefP.stays rfl).put hv)
end
end AP
set_option maxHeartbeats 4000000
/-! Lists of lists that are new, all of them apart. -/
namespace AP
open PySem PySem.Spec PyProof.Rows L2 Evl
/-- a list of lists, each of them an object of its own -/
structure LLN where
  xs : List (List Int)
instance : Py LLN := ⟨fun x v B => ∃ (l : Addr) (us : List V), v = .ref l ∧ B l = some (.lst us) ∧ Each B x.xs us ∧ us.Nodup ∧ V.ref l ∉ us,
  fun x v B B' e ⟨l, us, h1, h2, h3, h4, h5⟩ => ⟨l, us, h1, e _ _ h2, h3.ex e, h4, h5⟩⟩
end AP
set_option maxHeartbeats 4000000
/-! A list of lists told new, read, and then one of its lists changed. -/
namespace AP
open PySem PySem.Spec PyProof.Rows L2 Evl
/-- new as from B1 -/
structure NewV (B1 : Hp) (α : Type) where
  v : α
instance {B1 : Hp} {α : Type} [Py α] : Py (NewV B1 α) := ⟨fun x w B => Py.is x.v w (diff B B1), fun x w B B' e h => Py.st x.v w _ _ (diff_up e) h⟩
/-- a list whose first item is forgotten -/
structure TailL where
  xs : List (List Int)
instance : Py TailL := ⟨fun x v B => ∃ (l : Addr) (u : V) (us : List V), v = .ref l ∧ B l = some (.lst (u :: us)) ∧ Each B x.xs us, fun x v B B' e ⟨l, u, us, h1, h2, h3⟩ => ⟨l, u, us, h1, e _ _ h2, h3.ex e⟩⟩
/-- what stays known when the first list is changed -/
inductive Sunk (B1 B2 : Hp) : Ctx → Ctx → Prop
  | nil : Sunk B1 B2 [] []
  | old {α : Type} [Py α] (x : α) {Γ Γ' : Ctx} : Sunk B1 B2 Γ Γ' → Sunk B1 B2 (some (Py.is (OldV.mk x : OldV B1 α)) :: Γ) (some (Py.is x) :: Γ')
  | flat {P : VP} (f : Flat P) {Γ Γ' : Ctx} : Sunk B1 B2 Γ Γ' → Sunk B1 B2 (some P :: Γ) (some P :: Γ')
  | skip {o : Option VP} {Γ Γ' : Ctx} : Sunk B1 B2 Γ Γ' → Sunk B1 B2 (o :: Γ) (none :: Γ')
  | tail {P : VP} {v0 : V} {fs : List (List Int)} (h : Py.is (TailL.mk fs) v0 B2) {Γ Γ' : Ctx} : Sunk B1 B2 Γ Γ' → Sunk B1 B2 (some (fun u B => u = v0 ∧ P u B) :: Γ) (some (Py.is (TailL.mk fs)) :: Γ')
theorem Sunk.ok {B1 B2 B : Hp} {Γ Γ' : Ctx} (e : Ex B1 B2) (a : Sunk B1 B2 Γ Γ') : Γ'.length = Γ.length ∧ ∀ (k : Nat) (P2 : VP), Γ'[k]? = some (some P2) → ∃ P : VP, Γ[k]? = some (some P) ∧ Stays P2 ∧ ∀ v, P v B → P2 v B2 := by
  induction a with
  | nil => exact ⟨rfl, fun k P2 h => by simp at h⟩
  | @old α _ x Γ Γ' _ ih =>
    refine ⟨by rw [List.length_cons, List.length_cons, ih.1], fun k P2 h => ?_⟩
    cases k with
    | zero =>
      have h : Py.is x = P2 := by simpa using h
      subst h
      exact ⟨_, rfl, Py.stays x, fun v q => Py.st x v B1 B2 e q.1⟩
    | succ k => exact ih.2 k P2 (by simpa using h)
  | @flat P f Γ Γ' _ ih =>
    refine ⟨by rw [List.length_cons, List.length_cons, ih.1], fun k P2 h => ?_⟩
    cases k with
    | zero =>
      have h : P = P2 := by simpa using h
      subst h
      exact ⟨_, rfl, fun v B B' _ q => f v B B' q, fun v q => f v B B2 q⟩
    | succ k => exact ih.2 k P2 (by simpa using h)
  | @skip o Γ Γ' _ ih =>
    refine ⟨by rw [List.length_cons, List.length_cons, ih.1], fun k P2 h => ?_⟩
    cases k with
    | zero => simp at h
    | succ k => exact ih.2 k P2 (by simpa using h)
  | @tail P v0 fs h0 Γ Γ' _ ih =>
    refine ⟨by rw [List.length_cons, List.length_cons, ih.1], fun k P2 h => ?_⟩
    cases k with
    | zero =>
      have h : Py.is (TailL.mk fs) = P2 := by simpa using h
      subst h
      exact ⟨_, rfl, Py.stays _, fun v q => q.1 ▸ h0⟩
    | succ k => exact ih.2 k P2 (by simpa using h)
section
variable {K : PySem.W.Frag} {G : Option Addr} {c c0 c1 c2 c3 : Nat} {te ta tb tc tl : TE} {Γ : AP.Ctx} {α β : Type} [Py α] [Py β] {B B' H H' B0 H0 B1 H1 : Hp} {σ : L2.St} {z z' z0 z1 : Int} {D : Ends} {tz : TS}
theorem Ty.newv {x : α} (h : Ty G c te Γ (· = (NewV.mk x : NewV B1 α))) : Ty G c te Γ (· = x) := fun z B σ H en s hz Q q => h z B σ H en s hz Q fun y v z' B' H' ey n hv => q x v z' B' H' rfl n (by subst ey; exact Py.st _ _ _ _ (diff_sub _ _) hv)
theorem Slo.pin {k : Nat} {P : VP} (en : Slo B σ Γ) (hk : Γ[k]? = some (some P)) : ∃ v, σ[k]? = some (some v) ∧ P v B ∧ Slo B σ (Γ.set k (some fun u B2 => u = v ∧ P u B2)) := by
  obtain ⟨v, h1, h2, h3⟩ := en.all k P hk
  refine ⟨v, h1, h3, ⟨by rw [List.length_set]; exact en.len, fun j R q => ?_⟩⟩
  by_cases e : k = j
  · subst e
    obtain ⟨kl, _⟩ := List.getElem?_eq_some_iff.mp hk
    rw [List.getElem?_set_self kl] at q
    have q : (fun u B2 => u = v ∧ P u B2) = R := by injection q with q; injection q
    subst q
    exact ⟨v, h1, fun u B B' e p => ⟨p.1, h2 u B B' e p.2⟩, rfl, h3⟩
  · rw [List.getElem?_set_ne e] at q
    exact en.all j R q
end
end AP
set_option maxHeartbeats 4000000
/-! list(range(n)) as a new list. -/
namespace AP
open PySem PySem.Spec PyProof.Rows L2 Evl
end AP
set_option maxHeartbeats 4000000
/-! xs[a drawn index] = a drawn number. -/
namespace AP
open PySem PySem.Spec PyProof.Rows L2 Evl
open DatOf (toD)
end AP
set_option maxHeartbeats 4000000
/-! right(generator(script, e)) with any whole number e that is known. -/
namespace AP
open PySem PySem.Spec PyProof.Rows L2 Evl
end AP
set_option maxHeartbeats 4000000
/-! A new list assigned from an expression that reads a list that grows. -/
namespace AP
open PySem PySem.Spec PyProof.Rows L2 Evl
end AP
set_option maxHeartbeats 4000000
/-! A head that tells of classes of errors, too. -/
namespace AP
open PySem PySem.Spec PyProof.Rows L2 Evl
def eqV (a b : Option Value) : Bool := decide (a = b)
end AP
set_option maxHeartbeats 4000000
/-! An error is caught by its own class. -/
namespace AP
open PySem PySem.Spec PyProof.Rows L2 Evl
end AP
set_option maxHeartbeats 4000000
/-! Two names at once, the first a new list; x = sorted([xs.pop(..) for ..]). -/
namespace AP
open PySem PySem.Spec PyProof.Rows L2 Evl
end AP
set_option maxHeartbeats 4000000
/-! [drawn by x for x in xs]: what is told of each place. -/
namespace AP
open PySem PySem.Spec PyProof.Rows L2 Evl
end AP
set_option maxHeartbeats 4000000
/-! Defs out of a list called; x if b else y of calls that raise; values with what stands for them, listed. -/
namespace AP
open PySem PySem.Spec PyProof.Rows L2 Evl
end AP
set_option maxHeartbeats 4000000
/-! repr of data with empty dicts. -/
namespace AP
open PySem PySem.Spec PyProof.Rows L2 Evl
end AP
set_option maxHeartbeats 4000000
/-! A list literal that grows while other lists grow; ints told as data. -/
namespace AP
open PySem PySem.Spec PyProof.Rows L2 Evl
section
variable {K : PySem.W.Frag} {G : Option Addr} {c c0 c1 c2 : Nat} {te ta : TE} {tr : TA} {Γ : AP.Ctx} {α : Type} [Py α] {B H B0 H0 : Hp} {σ : L2.St} {z z0 : Int} {D : Ends} {tz : TS}
theorem Ty.intsD {ns : List Int} (h : Ty G c te Γ (· = ns)) : Ty G c te Γ (· = ns.map Dat.int) := h.cast fun v B q => ints_dats q
end
end AP
set_option maxHeartbeats 4000000
/-! Which orders are good: by twos, by costs, by runs. -/
namespace AP
def goodAt (v : List Int) (m : Nat) : Prop := ∀ p ∈ v.drop m, twosTo (v.getD m 0) (v.take m) ≤ twosTo p (v.take m)
def goodS (v : List Int) : Bool := (List.range v.length).all fun m => (v.drop m).all fun p => decide (twosTo (v.getD m 0) (v.take m) ≤ twosTo p (v.take m))
theorem goodS_iff {v : List Int} : goodS v = true ↔ ∀ m, m < v.length → goodAt v m := by
  unfold goodS goodAt
  simp only [List.all_eq_true, List.mem_range, decide_eq_true_eq]
def goodL (ps v : List Int) : Bool := decide (v.Perm ps) && goodS v
theorem goodL_perm {ps v : List Int} (h : ¬ v.Perm ps) : goodL ps v = false := by unfold goodL; rw [decide_eq_false h]; rfl
theorem goodL_bad {ps v : List Int} {m : Nat} (hm : m < v.length) {q : Int} (hq : q ∈ v.drop m) (h : twosTo q (v.take m) < twosTo (v.getD m 0) (v.take m)) : goodL ps v = false := by
  unfold goodL
  rw [show goodS v = false from ?_, Bool.and_false]
  cases e : goodS v with
  | false => rfl
  | true => have := goodS_iff.mp e m hm q hq; omega
theorem goodL_yes {ps v : List Int} (h : v.Perm ps) (g : ∀ m, m < v.length → goodAt v m) : goodL ps v = true := by
  unfold goodL
  rw [decide_eq_true h, goodS_iff.mpr g]
  rfl
theorem sort_is {ps v : List Int} (up : ps.Pairwise (· < ·)) : sortI v = ps ↔ v.Perm ps := by
  constructor
  · intro h
    rw [← h]
    exact (sortI_perm v).symm
  · intro h
    exact asc_unique (sort_asc v) (up.imp fun h => by omega) ((sortI_perm v).trans h)
/-- what the costs are, some being taken -/
structure CostsOk (v : List Int) (k : Nat) (kvs : KC) : Prop where
  ok : KcOk kvs
  mem : ∀ x, x ∈ kvs ↔ x.1 ∈ v.drop k ∧ x.2 = twosTo x.1 (v.take k)
theorem costs_start {ps v : List Int} (nd : ps.Nodup) (l : ps.length ≤ 30000) (h : v.Perm ps) : CostsOk v 0 (ps.map fun p => (p, 0)) := by
  refine ⟨⟨by rw [List.map_map]; exact (show (ps.map id).Nodup by rw [List.map_id]; exact nd), by rw [List.length_map]; exact l⟩, fun x => ?_⟩
  rw [List.drop_zero, List.take_zero, h.mem_iff]
  constructor
  · intro hx
    obtain ⟨p, hp, rfl⟩ := List.mem_map.mp hx
    exact ⟨hp, rfl⟩
  · intro ⟨h1, h2⟩
    exact List.mem_map.mpr ⟨x.1, h1, Prod.ext rfl h2.symm⟩
theorem drop_ne {v : List Int} (nd : v.Nodup) {k : Nat} (hk : k < v.length) {q : Int} : q ∈ v.drop (k + 1) ↔ q ∈ v.drop k ∧ q ≠ v[k] := by
  rw [List.drop_eq_getElem_cons hk]
  have nd2 : (v[k] :: v.drop (k + 1)).Nodup := by rw [← List.drop_eq_getElem_cons hk]; exact nd.sublist (List.drop_sublist ..)
  have h := (List.nodup_cons.mp nd2).1
  constructor
  · intro hq
    exact ⟨List.mem_cons_of_mem _ hq, fun e => h (e ▸ hq)⟩
  · intro ⟨h1, h2⟩
    rcases List.mem_cons.mp h1 with e | e
    · exact absurd e h2
    · exact e
theorem costs_step {v : List Int} {k : Nat} {kvs : KC} (nd : v.Nodup) (hk : k < v.length) (c : CostsOk v k kvs) : CostsOk v (k + 1) (behind kvs v[k]) := by
  have tk : v.take (k + 1) = v.take k ++ [v[k]] := by rw [List.take_succ, List.getElem?_eq_getElem hk]; rfl
  refine ⟨⟨behind_nodup c.ok.1, ?_⟩, fun x => ?_⟩
  · unfold behind
    rw [List.length_map]
    exact Nat.le_trans (List.length_filter_le ..) c.ok.2
  · unfold behind
    rw [tk, twosTo_snoc, drop_ne nd hk]
    simp only [List.mem_map, List.mem_filter, decide_eq_true_eq]
    constructor
    · rintro ⟨y, ⟨hy, hn⟩, rfl⟩
      obtain ⟨h1, h2⟩ := (c.mem y).mp hy
      exact ⟨⟨h1, hn⟩, by show y.2 + _ = _; rw [h2]⟩
    · intro ⟨⟨h1, hn⟩, h2⟩
      refine ⟨(x.1, twosTo x.1 (v.take k)), ⟨(c.mem _).mpr ⟨h1, rfl⟩, hn⟩, Prod.ext rfl h2.symm⟩
theorem costs_key {v : List Int} {k : Nat} {kvs : KC} (c : CostsOk v k kvs) {q : Int} (hq : q ∈ v.drop k) : q ∈ kvs.map (·.1) := List.mem_map.mpr ⟨(q, twosTo q (v.take k)), (c.mem _).mpr ⟨hq, rfl⟩, rfl⟩
theorem costs_val {v : List Int} {k : Nat} {kvs : KC} (c : CostsOk v k kvs) {q : Int} (hq : q ∈ v.drop k) : valI (DictI.mk kvs) q = twosTo q (v.take k) := by
  unfold valI
  have hm := (c.mem (q, twosTo q (v.take k))).mpr ⟨hq, rfl⟩
  cases h : kvs.find? (fun e => decide (e.1 = q)) with
  | none =>
    have := List.find?_eq_none.mp h _ hm
    simp at this
  | some e =>
    have h1 := List.mem_of_find?_eq_some h
    have h2 := List.find?_some h
    have h2 : e.1 = q := by simpa using h2
    obtain ⟨_, h3⟩ := (c.mem e).mp h1
    show ((Option.some e).map (·.2)).getD 0 = _
    rw [← h2]
    exact h3
theorem mem_drop_at {v : List Int} {k : Nat} (hk : k < v.length) : v[k] ∈ v.drop k := by
  rw [List.drop_eq_getElem_cons hk]
  exact List.mem_cons_self
/-- the least of the costs is above none -/
theorem costs_good {v : List Int} {k : Nat} {kvs : KC} (hk : k < v.length) (c : CostsOk v k kvs) {m : Int} (h : m ∈ kvs.map (·.2) ∧ ∀ y ∈ kvs.map (·.2), m ≤ y) :
    (valI (DictI.mk kvs) v[k] ≤ m → goodAt v k) ∧ (m < valI (DictI.mk kvs) v[k] → ∀ ps, goodL ps v = false) := by
  have e := costs_val c (mem_drop_at hk)
  have g : v.getD k 0 = v[k] := by rw [List.getD_eq_getElem?_getD, List.getElem?_eq_getElem hk]; rfl
  constructor
  · intro le p hp
    have := h.2 (twosTo p (v.take k)) (List.mem_map.mpr ⟨(p, _), (c.mem (p, twosTo p (v.take k))).mpr ⟨hp, rfl⟩, rfl⟩)
    rw [g]
    omega
  · intro lt ps
    obtain ⟨x, hx, ex⟩ := List.mem_map.mp h.1
    obtain ⟨h1, h2⟩ := (c.mem x).mp hx
    exact goodL_bad hk h1 (by rw [g]; omega)
end AP
set_option maxHeartbeats 4000000
/-! A value and two lists that grow, at once; promises put together. -/
namespace AP
open PySem PySem.Spec PyProof.Rows L2 Evl
section
variable {K : PySem.W.Frag} {G : Option Addr} {c c0 c1 c2 c3 : Nat} {te ta tb tc : TE} {Γ : AP.Ctx} {β : Type} [Py β] {B B' H H' B0 H0 : Hp} {σ : L2.St} {z z' z0 : Int} {D : Ends} {tz : TS}
theorem q_asgLE {A : List Int → Prop} (s0 : At G z0 B0 H0) (n : Nx G c0 z0 B0 H0 z B H) (en : Slo B σ Γ) {i : Nat} (h : TyN G c te Γ A) (hz : z0 + (c0 + c) ≤ 2 ^ 50)
    (k : ∀ xs l z' B' H' σ', A xs → Nx G c z B H z' B' H' → Nx G (c0 + c) z0 B0 H0 z' B' H' → B l = none → H0 l = none → B' l = some (.lst (xs.map V.int)) → Slo B' σ' (Γ.set i (some (Py.is (LAt.mk l xs)))) → D.nx σ' H') : tAsg te (gName i) D σ H :=
  q_asgLS (tz := fun D σ H => D.nx σ H) s0 n en h hz k
theorem q_parT3XLL {i j k : Nat} {A1 : β → Prop} {A2 A3 : List Int → Prop} (s0 : At G z0 B0 H0) (n : Nx G c0 z0 B0 H0 z B H) (en : Slo B σ Γ) (h1 : Ty G c1 ta Γ A1) (h2 : TyN G c2 tb Γ A2) (h3 : TyN G c3 tc Γ A3) (hz : z0 + (c0 + (c1 + c2 + c3)) ≤ 2 ^ 50)
    (kk : ∀ x y u ly lu z' B' H' σ', A1 x → A2 y → A3 u → ly ≠ lu → Gro H0 B' H' ly y → Gro H0 B' H' lu u → Nx G (c1 + c2 + c3) z B H z' B' H' → Nx G (c0 + (c1 + c2 + c3)) z0 B0 H0 z' B' H' → Slo B' σ' (((Γ.set i (some (Py.is x))).set j (some (RefP ly))).set k (some (RefP lu))) → tz D σ' H') :
    tSeq (tAsg (tTup (tCons ta (tCons tb (tCons tc tNil)))) (gTup K 3 (gCons (gName i) (gCons (gName j) (gCons (gName k) gNil))))) tz D σ H := by
  refine h1 z B σ H en n.at_ (by have := n.hi; omega) _ fun x v z1 B1 H1 ax n1 hv => ?_
  have m1 := n.trans s0 n1
  refine TyN.gro s0 m1 (en.up n1.up) h2 (by omega) _ fun y ly z2 B2 H2 ay ey gy n2 => ?_
  have m2 := m1.trans s0 n2
  refine TyN.gro s0 m2 ((en.up n1.up).up n2.up) h3 (by omega) _ fun u lu z3 B3 H3 au eu gu n3 => ?_
  have gy2 := gy.step s0 n3
  refine ⟨sz_of (by simp), fun p hp => ⟨p, [v, .ref ly, .ref lu], rfl, st_of upd_same, rfl, _, _, rfl, _, _, rfl, _, _, rfl, rfl, ?_⟩⟩
  have n4 := Nx.more n3.at_ (Ex.new (o := .tup [v, .ref ly, .ref lu]) hp)
  have g1 := gy2.step s0 n4
  have g2 := gu.step s0 n4
  have nn := ((n1.trans n.at_ n2).trans n.at_ n3).trans n.at_ n4
  exact kk x y u ly lu _ _ _ _ ax ay au (ref_ne gy.hl eu) g1 g2 (nn.le (by omega)) ((n.trans s0 nn).le (by omega)) ((((en.up nn.up).put (Py.st _ _ _ _ ((n2.up.trans n3.up).trans n4.up) hv)).set RefP.stays rfl).set RefP.stays rfl)
end
theorem FnOk.or {P : Program} {w : World} {K : PySem.W.Frag} {mg : Str → Option Value} {base : Heap} {CX : CXT} {k : Nat} {f : Addr} {fd : FuncData} {ps : List Str} {sp1 sp2 sp : Sp} (F1 : FnOk P w K mg base CX k f fd ps sp1) (F2 : FnOk P w K mg base CX k f fd ps sp2)
    (h : ∀ vs H Q E, sp vs H Q E → sp1 vs H Q E ∨ sp2 vs H Q E) : FnOk P w K mg base CX k f fd ps sp :=
  ⟨fun vs H Q E q => (h _ _ _ _ q).elim (F1.len vs H Q E) (F2.len vs H Q E), fun A outer s H args us vs Q E hr he hb hv hs => (h _ _ _ _ hs).elim (F1.run A outer s H args us vs Q E hr he hb hv) (F2.run A outer s H args us vs Q E hr he hb hv)⟩
end AP
set_option maxHeartbeats 4000000
/-! Two items of a list exchanged; promises of several kinds put together. -/
namespace AP
open PySem PySem.Spec PyProof.Rows L2 Evl
section
variable {K : PySem.W.Frag} {G : Option Addr} {c0 : Nat} {Γ : AP.Ctx} {B H B0 H0 : Hp} {σ : L2.St} {z z0 : Int} {D : Ends} {tz : TS} {l : Addr}
theorem q_swapS {xs : List Int} {us : List V} {i j : Int} {k ki kj : Nat} (s0 : At G z0 B0 H0) (n : Nx G c0 z0 B0 H0 z B H) (en : Slo B σ Γ) (hk : Γ[k]? = some (some (RefP l))) (hki : Γ[ki]? = some (some (Py.is i))) (hkj : Γ[kj]? = some (some (Py.is j)))
    (hl : H l = some (.lst us)) (nl : B l = none) (n0 : H0 l = none) (ea : Each B xs us) (ixi : 0 ≤ i ∧ i < xs.length) (ixj : 0 ≤ j ∧ j < xs.length)
    (kk : ∀ H', Nx G c0 z0 B0 H0 z B H' → H' l = some (.lst ((us.set i.toNat (.int (xs.getD j.toNat 0))).set j.toNat (.int (xs.getD i.toNat 0)))) → tz D σ H') :
    tSeq (tAsg (tTup (tCons (tOp (rIxL K) (tVar k) (tVar kj)) (tCons (tOp (rIxL K) (tVar k) (tVar ki)) tNil))) (gTup K 2 (gCons (gSub (tVar k) (tVar ki) rSetL) (gCons (gSub (tVar k) (tVar kj) rSetL) gNil)))) tz D σ H := by
  obtain ⟨u, e1, _, eu⟩ := en.all k _ hk
  cases (show u = .ref l from eu)
  obtain ⟨vi, e2, _, ei⟩ := en.all ki _ hki
  cases (show vi = .int i from ei)
  obtain ⟨vj, e3, _, ej⟩ := en.all kj _ hkj
  cases (show vj = .int j from ej)
  obtain ⟨a, ha, pa⟩ := ea.at (atI_in ixj.1 ixj.2)
  obtain ⟨b, hb, pb⟩ := ea.at (atI_in ixi.1 ixi.2)
  cases (show a = .int _ from pa)
  cases (show b = .int _ from pb)
  refine ⟨_, e1, _, e3, l, us, j, _, rfl, rfl, sq_of hl, ha, ?_⟩
  refine ⟨_, e1, _, e2, l, us, i, _, rfl, rfl, sq_of hl, hb, ?_⟩
  refine ⟨sz_of (by simp), fun p hp => ?_⟩
  have lp : l ≠ p := fun e => by rw [← e, hl] at hp; cases hp
  have n1 := n.trans s0 (Nx.more n.at_ (Ex.new (o := .tup [.int (xs.getD j.toNat 0), .int (xs.getD i.toNat 0)]) hp))
  have hl1 : (upd H p (.tup [.int (xs.getD j.toNat 0), .int (xs.getD i.toNat 0)])) l = some (.lst us) := by rw [upd_ne lp]; exact hl
  refine ⟨p, [.int (xs.getD j.toNat 0), .int (xs.getD i.toNat 0)], rfl, st_of upd_same, rfl, _, _, rfl, ?_⟩
  refine ⟨_, e1, _, e2, l, us, i, _, rfl, rfl, hl1, ixN_in ixi.1 (by rw [ea.len]; exact ixi.2), ?_⟩
  refine ⟨_, _, rfl, _, e1, _, e3, l, _, j, _, rfl, rfl, upd_same, ixN_in ixj.1 (by rw [List.length_set, ea.len]; exact ixj.2), rfl, ?_⟩
  refine kk _ ?_ upd_same
  exact (((n1.put s0 hl1 nl n0).put s0 upd_same nl n0)).le (by omega)
end
/-- one promise follows from another at these arguments -/
def Fits {ι ι1 β : Type} [Py β] (C : Con ι β) (C1 : Con ι1 β) (i : ι) (G : Option Addr) (vs : List V) (B : Hp) : Prop :=
  ∃ i', Alls B (C1.args i') vs ∧ C1.pre i' G ∧ C1.c i' ≤ C.c i ∧ ∀ y, C1.post i' y → C.post i y
theorem Fits.sp {ι ι1 β : Type} [Py β] {C : Con ι β} {C1 : Con ι1 β} {i : ι} {G : Option Addr} {vs : List V} {B H : Hp} {z : Int} {Q : VK} {E : XK} (h : Fits C C1 i G vs B) (a : At G z B H) (hz : z + C.c i ≤ 2 ^ 50)
    (q : ∀ y w z' B' H', C.post i y → Nx G (C.c i) z B H z' B' H' → Py.is y w B' → Q w H') : C1.sp vs H Q E := by
  obtain ⟨i', al, p, hc, k⟩ := h
  exact ⟨i', G, z, B, al, p, a, by omega, fun y w z' B' H' py n hw => q y w z' B' H' (k y py) (n.le hc) hw⟩
theorem con_or {P : Program} {w : World} {K : PySem.W.Frag} {mg : Str → Option Value} {base : Heap} {CX : CXT} {k : Nat} {f : Addr} {fd : FuncData} {ps : List Str} {ι ι1 ι2 β : Type} [Py β] {C : Con ι β} {C1 : Con ι1 β} {C2 : Con ι2 β}
    (F1 : FnOk P w K mg base CX k f fd ps C1.sp) (F2 : FnOk P w K mg base CX k f fd ps C2.sp) (h : ∀ i G vs B, C.pre i G → Alls B (C.args i) vs → Fits C C1 i G vs B ∨ Fits C C2 i G vs B) : FnOk P w K mg base CX k f fd ps C.sp :=
  FnOk.or F1 F2 fun vs H Q E ⟨i, G, z, B, al, p, a, hz, q⟩ => (h i G vs B p al).imp (fun g => g.sp a hz q) (fun g => g.sp a hz q)
theorem con_or3 {P : Program} {w : World} {K : PySem.W.Frag} {mg : Str → Option Value} {base : Heap} {CX : CXT} {k : Nat} {f : Addr} {fd : FuncData} {ps : List Str} {ι ι1 ι2 ι3 β : Type} [Py β] {C : Con ι β} {C1 : Con ι1 β} {C2 : Con ι2 β} {C3 : Con ι3 β}
    (F1 : FnOk P w K mg base CX k f fd ps C1.sp) (F2 : FnOk P w K mg base CX k f fd ps C2.sp) (F3 : FnOk P w K mg base CX k f fd ps C3.sp)
    (h : ∀ i G vs B, C.pre i G → Alls B (C.args i) vs → Fits C C1 i G vs B ∨ Fits C C2 i G vs B ∨ Fits C C3 i G vs B) : FnOk P w K mg base CX k f fd ps C.sp :=
  FnOk.or F1 (FnOk.or (sp := fun vs H Q E => C2.sp vs H Q E ∨ C3.sp vs H Q E) F2 F3 fun _ _ _ _ h => h) fun vs H Q E ⟨i, G, z, B, al, p, a, hz, q⟩ =>
    (h i G vs B p al).imp (fun g => g.sp a hz q) fun g => g.imp (fun g => g.sp a hz q) (fun g => g.sp a hz q)
end AP
set_option maxHeartbeats 4000000
/-! Two new lists in a tuple, told new, read, and then changed one after the other. -/
namespace AP
open PySem PySem.Spec PyProof.Rows L2 Evl
/-- two lists, each an object of its own -/
structure PairN where
  a : List Int
  b : List Int
instance : Py PairN := ⟨fun x v B => ∃ p l1 l2, v = .ref p ∧ B p = some (.tup [.ref l1, .ref l2]) ∧ l1 ≠ l2 ∧ B l1 = some (.lst (x.a.map V.int)) ∧ B l2 = some (.lst (x.b.map V.int)),
  fun x v B B' e ⟨p, l1, l2, h1, h2, h3, h4, h5⟩ => ⟨p, l1, l2, h1, e _ _ h2, h3, e _ _ h4, e _ _ h5⟩⟩
/-- a tuple whose second list stands at l -/
structure SndL where
  l : Addr
  b : List Int
instance : Py SndL := ⟨fun x v B => ∃ p a, v = .ref p ∧ B p = some (.tup [a, .ref x.l]) ∧ B x.l = some (.lst (x.b.map V.int)), fun x v B B' e ⟨p, a, h1, h2, h3⟩ => ⟨p, a, h1, e _ _ h2, e _ _ h3⟩⟩
def NewL (B0 : Hp) (l : Addr) (x : List Int) : VP := fun v B => v = .ref l ∧ diff B B0 l = some (.lst (x.map V.int))
theorem NewL.stays {B0 : Hp} {l : Addr} {x : List Int} : Stays (NewL B0 l x) := fun _ _ _ e h => ⟨h.1, diff_up e _ _ h.2⟩
inductive SunkG (B1 B2 : Hp) : Ctx → Ctx → Prop
  | nil : SunkG B1 B2 [] []
  | old {α : Type} [Py α] (x : α) {Γ Γ' : Ctx} : SunkG B1 B2 Γ Γ' → SunkG B1 B2 (some (Py.is (OldV.mk x : OldV B1 α)) :: Γ) (some (Py.is (OldV.mk x : OldV B1 α)) :: Γ')
  | flat {P : VP} (f : Flat P) {Γ Γ' : Ctx} : SunkG B1 B2 Γ Γ' → SunkG B1 B2 (some P :: Γ) (some P :: Γ')
  | skip {o : Option VP} {Γ Γ' : Ctx} : SunkG B1 B2 Γ Γ' → SunkG B1 B2 (o :: Γ) (none :: Γ')
  | told {α : Type} [Py α] {P : VP} {v0 : V} {x : α} (h : Py.is x v0 B2) {Γ Γ' : Ctx} : SunkG B1 B2 Γ Γ' → SunkG B1 B2 (some (fun u B => u = v0 ∧ P u B) :: Γ) (some (Py.is x) :: Γ')
theorem SunkG.ok {B1 B2 B : Hp} {Γ Γ' : Ctx} (e : Ex B1 B2) (a : SunkG B1 B2 Γ Γ') : Γ'.length = Γ.length ∧ ∀ (k : Nat) (P2 : VP), Γ'[k]? = some (some P2) → ∃ P : VP, Γ[k]? = some (some P) ∧ Stays P2 ∧ ∀ v, P v B → P2 v B2 := by
  induction a with
  | nil => exact ⟨rfl, fun k P2 h => by simp at h⟩
  | @old α _ x Γ Γ' _ ih =>
    refine ⟨by rw [List.length_cons, List.length_cons, ih.1], fun k P2 h => ?_⟩
    cases k with
    | zero =>
      have h : Py.is (OldV.mk x : OldV B1 α) = P2 := by simpa using h
      subst h
      exact ⟨_, rfl, Py.stays _, fun v q => ⟨q.1, Py.st x v B1 B2 e q.1⟩⟩
    | succ k => exact ih.2 k P2 (by simpa using h)
  | @flat P f Γ Γ' _ ih =>
    refine ⟨by rw [List.length_cons, List.length_cons, ih.1], fun k P2 h => ?_⟩
    cases k with
    | zero =>
      have h : P = P2 := by simpa using h
      subst h
      exact ⟨_, rfl, fun v B B' _ q => f v B B' q, fun v q => f v B B2 q⟩
    | succ k => exact ih.2 k P2 (by simpa using h)
  | @skip o Γ Γ' _ ih =>
    refine ⟨by rw [List.length_cons, List.length_cons, ih.1], fun k P2 h => ?_⟩
    cases k with
    | zero => simp at h
    | succ k => exact ih.2 k P2 (by simpa using h)
  | @told α _ P v0 x h0 Γ Γ' _ ih =>
    refine ⟨by rw [List.length_cons, List.length_cons, ih.1], fun k P2 h => ?_⟩
    cases k with
    | zero =>
      have h : Py.is x = P2 := by simpa using h
      subst h
      exact ⟨_, rfl, Py.stays _, fun v q => q.1 ▸ h0⟩
    | succ k => exact ih.2 k P2 (by simpa using h)
section
variable {K : PySem.W.Frag} {G : Option Addr} {c c0 c1 c2 c3 : Nat} {te ta tb tc tl : TE} {Γ : AP.Ctx} {B B' H H' B0 H0 B1 H1 : Hp} {σ : L2.St} {z z' z0 z1 : Int} {D : Ends} {tz : TS}
theorem Slo.sunkG {B2 : Hp} {Γ' : Ctx} (en : Slo B σ Γ) (ex : Ex B1 B2) (a : SunkG B1 B2 Γ Γ') : Slo B2 σ Γ' := en.sink (a.ok (B := B) ex).1 (a.ok (B := B) ex).2
theorem Ty.pairN {x y : List Int} (h : Ty G c te Γ (· = PairN.mk x y)) : Ty G c te Γ (· = (x, y)) := h.cast fun v B ⟨p, l1, l2, e, h1, _, h2, h3⟩ => ⟨p, .ref l1, .ref l2, e, h1, Py.of_ints h2, Py.of_ints h3⟩
theorem ty_sndL {l : Addr} {y : List Int} (h : Ty G c te Γ (· = SndL.mk l y)) : Ty G (c + 0) (tOp (rIxT K) te (tC (.int 1))) Γ (· = y) := fun z B σ H en s hz Q q => by
  refine h z B σ H en s (by omega) _ fun x v z1 B1 H1 ex n1 hv => ?_
  subst ex
  obtain ⟨p, a, rfl, h1, h2⟩ := hv
  exact ⟨p, [a, .ref l], 1, .ref l, rfl, rfl, st_of (n1.at_.ex _ _ h1), rfl, q _ _ z1 B1 H1 rfl (n1.le (by omega)) (Py.of_ints h2)⟩
theorem td_pairN {i j : Nat} {l1 l2 : Addr} {x y : List Int} (e1 : Γ[i]? = some (some (NewL B0 l1 x))) (e2 : Γ[j]? = some (some (NewL B0 l2 y))) (ne : l1 ≠ l2) : TyD B0 G 0 (tTup (tCons (tVar i) (tCons (tVar j) tNil))) Γ (· = PairN.mk x y) := fun z B σ H e en s hz Q q => by
  obtain ⟨v, g1, _, rfl, h1⟩ := en.all i _ e1
  obtain ⟨w, g2, _, rfl, h2⟩ := en.all j _ e2
  refine ⟨_, g1, _, g2, sz_of (by simp), fun p hp => ?_⟩
  have n3 := Nx.alloc (o := .tup [.ref l1, .ref l2]) s hp
  have p0 : B0 p = none := by
    cases e0 : B0 p with
    | none => rfl
    | some o => rw [s.ex _ _ (e _ _ e0)] at hp; cases hp
  have up : Ex (diff B B0) (diff (upd B p (.tup [.ref l1, .ref l2])) B0) := diff_up n3.up
  exact q _ _ _ _ _ rfl n3 ⟨p, l1, l2, rfl, by unfold diff; rw [if_pos p0, upd_same], ne, up _ _ h1, up _ _ h2⟩
theorem cut_put {l : Addr} {us : List V} (n : Nx G c z0 B0 H0 z B H) (gl : G ≠ some l) (b0 : B0 l = none) (h0 : H0 l = none) : Nx G c z0 B0 H0 z (cutH B l) (upd H l (.lst us)) := by
  have nc := nx_cut n b0
  exact ⟨⟨fun a o ha => by
      have ne : a ≠ l := fun e => by rw [e, cut_at] at ha; cases ha
      rw [upd_ne ne]
      exact nc.at_.ex a o ha, fun g hg => by
      obtain ⟨q1, x, y, q2, q3⟩ := nc.at_.gen g hg
      exact ⟨q1, x, y, by rw [upd_ne (fun z => gl (by rw [hg, z]))]; exact q2, q3⟩⟩, nc.up, nc.new, nc.lo, nc.hi, fun a o hg ha => by
      rw [upd_ne (ne_of_none ha h0)]
      exact nc.keep a o hg ha⟩
theorem new_gone {l : Addr} {us : List V} (n : Nx G c z0 B0 H0 z B H) (hl : B l = some (.lst us)) (b0 : B0 l = none) : H0 l = none := by
  rcases n.new l _ hl with q | q
  · rw [b0] at q; cases q
  · rcases q with q | ⟨_, q, _⟩
    · exact q
    · cases q
theorem q_asgVN {α : Type} [Py α] {j : Nat} {A : α → Prop} (s0 : At G z0 B0 H0) (n : Nx G c0 z0 B0 H0 z B H) (eb : Ex B1 B) (en : Slo B σ Γ) (h : TyN G c te Γ A) (hz : z0 + (c0 + c) ≤ 2 ^ 50)
    (kk : ∀ y z' B' H' σ', A y → Nx G c z B H z' B' H' → Nx G (c0 + c) z0 B0 H0 z' B' H' → Slo B' σ' (Γ.set j (some (Py.is (NewV.mk y : NewV B1 α)))) → tz D σ' H') : tSeq (tAsg te (gName j)) tz D σ H :=
  h z B σ H en n.at_ (by have := n.hi; omega) _ fun y u z2 B2 H2 ay n2 hu => kk y _ _ _ _ ay n2 (n.trans s0 n2) ((en.up n2.up).put (show Py.is (NewV.mk y : NewV B1 α) u B2 from Py.st y u _ _ (diff_mono eb) hu))
/-- told[0].append(None) -/
theorem q_pairApp1 {k : Nat} {x y : List Int} (s0 : At G z0 B0 H0) (n : Nx G c0 z0 B0 H0 z B H) (ns : Nx G c1 z0 B0 H0 z1 B1 H1) (eb : Ex B1 B) (en : Slo B σ Γ)
    (hk : Γ[k]? = some (some (Py.is (NewV.mk (PairN.mk x y) : NewV B1 PairN)))) (small : x.length < 100000)
    (kk : ∀ v0 l2 B2 H', Ex B1 B2 → Py.is (SndL.mk l2 y) v0 B2 → B1 l2 = none → B0 l2 = none → H0 l2 = none → Nx G c0 z0 B0 H0 z B2 H' → Slo B σ (Γ.set k (some fun u B2 => u = v0 ∧ Py.is (NewV.mk (PairN.mk x y) : NewV B1 PairN) u B2)) → tz D σ H') :
    tSeq (tDrop (tBM K "list" rAppend (tOp (rIxT K) (tVar k) (tC (.int 0))) (tCons (tC .non) tNil))) tz D σ H := by
  obtain ⟨v, h1, h3, en2⟩ := en.pin hk
  obtain ⟨p, l1, l2, rfl, e1, ne, e2, e3⟩ : ∃ p l1 l2, v = .ref p ∧ (diff B B1) p = some (.tup [.ref l1, .ref l2]) ∧ l1 ≠ l2 ∧ (diff B B1) l1 = some (.lst (x.map V.int)) ∧ (diff B B1) l2 = some (.lst (y.map V.int)) := h3
  have bp := diff_at e1
  have b1 := diff_at e2
  have b2 := diff_at e3
  have down : ∀ {a : Addr}, B1 a = none → B0 a = none := fun {a} h => by
    cases e : B0 a with
    | none => rfl
    | some o => rw [ns.up _ _ e] at h; cases h
  have g1 := new_gone n b1.2 (down b1.1)
  have g2 := new_gone n b2.2 (down b2.1)
  have pl : p ≠ l1 := fun e => by rw [e, b1.2] at bp; cases bp.2
  have ex2 : Ex B1 (cutH B l1) := fun a o ha => by
    rw [cut_ne (fun e => by rw [e, b1.1] at ha; cases ha)]
    exact eb a o ha
  have hl := n.at_.ex _ _ b1.2
  refine ⟨.ref p, h1, p, _, 0, .ref l1, rfl, rfl, st_of (n.at_.ex _ _ bp.2), rfl, Or.inl ⟨rfl, _, sq_of hl⟩, ?_⟩
  refine ⟨l1, _, .non, rfl, rfl, hl, sz_lt (by rw [List.length_map]; exact small), ?_⟩
  exact kk (.ref p) l2 (cutH B l1) _ ex2 ⟨p, .ref l1, rfl, by rw [cut_ne pl]; exact bp.2, by show cutH B l1 l2 = _; rw [cut_ne ne.symm]; exact b2.2⟩ b2.1 (down b2.1) g2 (cut_put n (s0.ne g1) (down b1.1) g1) en2
/-- told[1].append(None) -/
theorem q_pairApp2 {k : Nat} {l2 : Addr} {y : List Int} (s0 : At G z0 B0 H0) (n : Nx G c0 z0 B0 H0 z B H) (eb : Ex B1 B) (en : Slo B σ Γ) (hk : Γ[k]? = some (some (Py.is (SndL.mk l2 y)))) (b1 : B1 l2 = none) (b0 : B0 l2 = none) (h0 : H0 l2 = none) (small : y.length < 100000)
    (kk : ∀ B2 H', Ex B1 B2 → Nx G c0 z0 B0 H0 z B2 H' → Slo B σ Γ → tz D σ H') :
    tSeq (tDrop (tBM K "list" rAppend (tOp (rIxT K) (tVar k) (tC (.int 1))) (tCons (tC .non) tNil))) tz D σ H := by
  obtain ⟨v, g, _, p, a, rfl, e1, e2⟩ := en.all k _ hk
  have e2 : B l2 = some (.lst (y.map V.int)) := e2
  have ex2 : Ex B1 (cutH B l2) := fun a o ha => by
    rw [cut_ne (fun e => by rw [e, b1] at ha; cases ha)]
    exact eb a o ha
  have hl := n.at_.ex _ _ e2
  refine ⟨.ref p, g, p, _, 1, .ref l2, rfl, rfl, st_of (n.at_.ex _ _ e1), rfl, Or.inl ⟨rfl, _, sq_of hl⟩, ?_⟩
  refine ⟨l2, _, .non, rfl, rfl, hl, sz_lt (by rw [List.length_map]; exact small), ?_⟩
  exact kk (cutH B l2) _ ex2 (cut_put n (s0.ne h0) b0 h0) en
end
end AP
set_option maxHeartbeats 4000000
namespace K05
open PySem PySem.Spec PyProof.Rows L2 AP Evl
def topS (i : Nat) : Stmt := PySem.Challenge.pw_anyplaces_k05_whole_good_orders.main.body.getD i (.Pass ⟨0, 0, 0, 0⟩)
/-- the built-in names -/
structure TN (mg : Str → Option Value) : Prop where
  b_int : mg "int" = none
  b_bool : mg "bool" = none
  b_list : mg "list" = none
  b_tuple : mg "tuple" = none
  b_dict : mg "dict" = none
  b_isinstance : mg "isinstance" = none
  b_all : mg "all" = none
  b_any : mg "any" = none
  b_len : mg "len" = none
  b_range : mg "range" = none
  b_sum : mg "sum" = none
  b_max : mg "max" = none
  b_min : mg "min" = none
  b_sorted : mg "sorted" = none
  b_repr : mg "repr" = none
  b_enumerate : mg "enumerate" = none
  b_zip : mg "zip" = none
  b_reversed : mg "reversed" = none
  b_abs : mg "abs" = none
def cOrderedP : AP.Con (List Int) PairN := ⟨fun ps => [Py.is ps], fun ps _ => ps.Nodup ∧ ps.length ≤ 30000, fun _ => 0, fun ps r => r = PairN.mk (orderOf ps) (numbersOf ps)⟩
def cGoodP : AP.Con (Int × List Int) PairN := ⟨fun i => [Py.is i.1, Py.is i.2], fun i _ => wOk i.1 ∧ Places i.1 i.2, fun _ => 0, fun i r => r = PairN.mk (orderOf i.2) (numbersOf i.2)⟩
section
variable {P : Program} {w : World} {K : PySem.W.Frag} {mg : Str → Option Value} {base : Heap}
abbrev sis_whole : Stmt := topS 6
theorem scis_whole : FnScope ["value"] ["value"] (defScope sis_whole) := ⟨rfl, rfl, rfl, by decide +kernel, rfl, by decide +kernel, by decide +kernel⟩
theorem ok_is_whole {f : Addr} {fd : FuncData} (F : Df K "is_whole" "is_whole" sis_whole [] f fd) (T : TN mg)   :
    FnOk P w K mg base CX0 1 f fd ["value"] cWhole.sp := by
  refine con_go F scis_whole cWhole (fun _ => rfl) fun cdv A outer s H E i G z0 B0 hr hp at0 hz => ⟨_, (pss_one (ps_ret (pe_and (pe_callB (r := rIsi K) call_isi (by rfl) T.b_isinstance (by decide +kernel) (pa_cons (pv 0) (pa_cons (pe_bltn (v := .ty "int") (by rfl) T.b_int (by decide +kernel) rfl) pa_nil))) (pe_one (pe_not (pe_callB (r := rIsi K) call_isi (by rfl) T.b_isinstance (by decide +kernel) (pa_cons (pv 0) (pa_cons (pe_bltn (v := .ty "bool") (by rfl) T.b_bool (by decide +kernel) rfl) pa_nil)))))))), fun σ Q en q => ?_⟩
  have n0 := Nx.refl at0
  exact q_ret at0 n0 en ((ty_andV (ty_isi .int (ty_var rfl)) fun _ => ty_notV (ty_isi .bool (ty_var rfl))).to (Dat.whole_eq i)) hz q
abbrev sis_between : Stmt := topS 7
theorem scis_between : FnScope ["value", "low", "high"] ["value", "low", "high"] (defScope sis_between) := ⟨rfl, rfl, rfl, by decide +kernel, rfl, by decide +kernel, by decide +kernel⟩
theorem ok_is_between {f : Addr} {fd : FuncData} (F : Df K "is_between" "is_between" sis_between [] f fd) (T : TN mg)  (Fis_whole : Fo P w K mg base "is_whole" 1 ["value"] cWhole.sp) :
    FnOk P w K mg base CX0 2 f fd ["value", "low", "high"] cBetween.sp := by
  refine con_go F scis_between cBetween (fun _ => rfl) fun cdv A outer s H E i G z0 B0 hr hp at0 hz => ⟨_, (pss_one (ps_ret (pe_and (pe_fo Fis_whole (hr.mono (by decide)) (by rfl) (pa_cons (pv 0) pa_nil)) (pe_one (pe_chain op_le op_le (pv 1) (pv 0) (pv 2)))))), fun σ Q en q => ?_⟩
  have n0 := Nx.refl at0
  obtain ⟨d, lo, hi⟩ := i
  exact q_ret at0 n0 en ((ty_andV (y_whole (ty_var rfl)) fun hw => ty_chain (ty_var rfl) ((ty_var (x := d) rfl).intOf hw) (ty_var rfl)).to (Dat.within_eq lo hi d).symm) hz q
abbrev sfits_width : Stmt := topS 8
theorem scfits_width : FnScope ["value"] ["value"] (defScope sfits_width) := ⟨rfl, rfl, rfl, by decide +kernel, rfl, by decide +kernel, by decide +kernel⟩
theorem ok_fits_width {f : Addr} {fd : FuncData} (F : Df K "fits_width" "fits_width" sfits_width [] f fd) (T : TN mg) (W : ∃ t, mg "WIDEST" = some (.int 64 t)) (Fis_between : Fo P w K mg base "is_between" 2 ["value", "low", "high"] cBetween.sp) :
    FnOk P w K mg base CX0 3 f fd ["value"] cFitsWidth.sp := by
  obtain ⟨tk, mW⟩ := W
  refine con_go F scfits_width cFitsWidth (fun _ => rfl) fun cdv A outer s H E i G z0 B0 hr hp at0 hz => ⟨_, (pss_one (ps_ret (pe_fo Fis_between (hr.mono (by decide)) (by rfl) (pa_cons (pv 0) (pa_cons pe_int (pa_cons (pe_glob (v := .int 64) (by rfl) mW ⟨_, rfl⟩) pa_nil)))))), fun σ Q en q => ?_⟩
  have n0 := Nx.refl at0
  exact q_ret at0 n0 en (y_between (ty_var rfl) ty_i ty_i) hz q
abbrev sfits_word : Stmt := topS 9
theorem scfits_word : FnScope ["width", "value"] ["width", "value"] (defScope sfits_word) := ⟨rfl, rfl, rfl, by decide +kernel, rfl, by decide +kernel, by decide +kernel⟩
theorem ok_fits_word {f : Addr} {fd : FuncData} (F : Df K "fits_word" "fits_word" sfits_word [] f fd) (T : TN mg)  (Fis_between : Fo P w K mg base "is_between" 2 ["value", "low", "high"] cBetween.sp) :
    FnOk P w K mg base CX0 3 f fd ["width", "value"] cFitsWord.sp := by
  refine con_go F scfits_word cFitsWord (fun _ => rfl) fun cdv A outer s H E i G z0 B0 hr hp at0 hz => ⟨_, (pss_one (ps_ret (pe_fo Fis_between (hr.mono (by decide)) (by rfl) (pa_cons (pv 1) (pa_cons pe_int (pa_cons (pe_op op_sub (pe_op op_shl pe_int (pv 0)) pe_int) pa_nil)))))), fun σ Q en q => ?_⟩
  have n0 := Nx.refl at0
  obtain ⟨wd, d⟩ := i
  have hw : 1 ≤ wd ∧ wd ≤ 64 := hp
  exact q_ret at0 n0 en (y_between (ty_var rfl) ty_i (ty_I0 (ty_shl (ty_var rfl) ⟨by omega, by omega⟩) ty_i)) hz q
abbrev stwos_of : Stmt := topS 10
theorem sctwos_of : FnScope ["number"] ["number"] (defScope stwos_of) := ⟨rfl, rfl, rfl, by decide +kernel, rfl, by decide +kernel, by decide +kernel⟩
theorem ok_twos_of {f : Addr} {fd : FuncData} (F : Df K "twos_of" "twos_of" stwos_of [] f fd) (T : TN mg)   :
    FnOk P w K mg base CX0 1 f fd ["number"] cTwosIn.sp := by
  refine con_go F sctwos_of cTwosIn (fun _ => rfl) fun cdv A outer s H E i G z0 B0 hr hp at0 hz => ⟨_, (pss_one (ps_ret (pe_op op_sub (pe_bits (pe_op op_and (pv 0) (pe_un un_neg (pv 0)))) pe_int))), fun σ Q en q => ?_⟩
  have n0 := Nx.refl at0
  have h0 : i ≠ 0 := hp
  exact q_ret at0 n0 en ((ty_I0 (f := fun a b => a - b) (ty_bits (ty_I0 (f := Builtin.bitAnd) (ty_var (x := i) rfl) (ty_neg (ty_var (x := i) rfl)))) ty_i).to (twos_bits h0)) hz q
abbrev sare_wholes : Stmt := topS 11
theorem scare_wholes : FnScope ["value", "number"] ["value"] (defScope sare_wholes) := ⟨rfl, rfl, rfl, by decide +kernel, rfl, by decide +kernel, by decide +kernel⟩
theorem ok_are_wholes {f : Addr} {fd : FuncData} (F : Df K "are_wholes" "are_wholes" sare_wholes [] f fd) (T : TN mg)  (Fis_whole : Fo P w K mg base "is_whole" 1 ["value"] cWhole.sp) :
    FnOk P w K mg base CX0 2 f fd ["value"] cAreWholes.sp := by
  refine con_go F scare_wholes cAreWholes (fun _ => rfl) fun cdv A outer s H E i G z0 B0 hr hp at0 hz => ⟨_, (pss_one (ps_ret (pe_and (pe_callB (r := rIsi K) call_isi (by rfl) T.b_isinstance (by decide +kernel) (pa_cons (pv 0) (pa_cons (pe_bltn (v := .ty "list") (by rfl) T.b_list (by decide +kernel) rfl) pa_nil))) (pe_one (pe_callB (r := rAll K) (cr_all rfl) (by rfl) T.b_all (by decide +kernel) (pa_cons (pe_lc (own := [("number", 1)]) rfl scare_wholes.nd (pi_list (pv 0)) (blkOk_by (own := [("number", 1)]) (N := ["value", "number"]) (sc := defScope sare_wholes) (by decide +kernel)) (fun _ _ _ _ _ => (pg_name (i := 1) scare_wholes.nd rfl (Or.inl rfl))) (fun _ _ _ _ _ => pts_nil) (fun _ _ _ _ _ => (pe_fo Fis_whole (hr.mono (by decide)) (by rfl) (pa_cons (pv 1) pa_nil)))) pa_nil)))))), fun σ Q en q => ?_⟩
  have n0 := Nx.refl at0
  have sm : i.small := hp
  refine q_ret at0 n0 en ((ty_andV (c2 := 0) (b := wholesB i) (ty_isi .list (ty_var rfl)) fun hl => ?_).to (by cases i <;> rfl)) hz q
  cases i with
  | lst ds =>
    exact (ty_all (ty_lcM ((ty_var rfl).lstDat) (Nat.le_trans sm (by decide)) (by simp) fun x hx => y_whole (ty_var rfl))).to (by rw [List.all_map]; rfl)
  | _ => cases hl
abbrev sare_words : Stmt := topS 12
theorem scare_words : FnScope ["width", "value", "word"] ["width", "value"] (defScope sare_words) := ⟨rfl, rfl, rfl, by decide +kernel, rfl, by decide +kernel, by decide +kernel⟩
theorem ok_are_words {f : Addr} {fd : FuncData} (F : Df K "are_words" "are_words" sare_words [] f fd) (T : TN mg)  (Ffits_word : Fo P w K mg base "fits_word" 3 ["width", "value"] cFitsWord.sp) :
    FnOk P w K mg base CX0 4 f fd ["width", "value"] cAreWords.sp := by
  refine con_go F scare_words cAreWords (fun _ => rfl) fun cdv A outer s H E i G z0 B0 hr hp at0 hz => ⟨_, (pss_one (ps_ret (pe_and (pe_callB (r := rIsi K) call_isi (by rfl) T.b_isinstance (by decide +kernel) (pa_cons (pv 1) (pa_cons (pe_bltn (v := .ty "list") (by rfl) T.b_list (by decide +kernel) rfl) pa_nil))) (pe_one (pe_callB (r := rAll K) (cr_all rfl) (by rfl) T.b_all (by decide +kernel) (pa_cons (pe_lc (own := [("word", 2)]) rfl scare_words.nd (pi_list (pv 1)) (blkOk_by (own := [("word", 2)]) (N := ["width", "value", "word"]) (sc := defScope sare_words) (by decide +kernel)) (fun _ _ _ _ _ => (pg_name (i := 2) scare_words.nd rfl (Or.inl rfl))) (fun _ _ _ _ _ => pts_nil) (fun _ _ _ _ _ => (pe_fo Ffits_word (hr.mono (by decide)) (by rfl) (pa_cons (pv 0) (pa_cons (pv 2) pa_nil))))) pa_nil)))))), fun σ Q en q => ?_⟩
  have n0 := Nx.refl at0
  obtain ⟨wd, d⟩ := i
  obtain ⟨hw, sm⟩ := hp
  refine q_ret at0 n0 en ((ty_andV (c2 := 0) (b := wordsB wd d) (ty_isi .list (ty_var rfl)) fun hl => ?_).to (by cases d <;> rfl)) hz q
  cases d with
  | lst ds =>
    exact (ty_all (ty_lcM ((ty_var rfl).lstDat) (Nat.le_trans sm (by decide)) (by simp) fun x hx => y_fitsWord (ty_var rfl) (ty_var rfl) hw)).to (by rw [List.all_map]; rfl)
  | _ => cases hl
abbrev sclimbs : Stmt := topS 13
theorem scclimbs : FnScope ["numbers", "k"] ["numbers"] (defScope sclimbs) := ⟨rfl, rfl, rfl, by decide +kernel, rfl, by decide +kernel, by decide +kernel⟩
theorem ok_climbs {f : Addr} {fd : FuncData} (F : Df K "climbs" "climbs" sclimbs [] f fd) (T : TN mg)   :
    FnOk P w K mg base CX0 1 f fd ["numbers"] cClimbs.sp := by
  refine con_go F scclimbs cClimbs (fun _ => rfl) fun cdv A outer s H E i G z0 B0 hr hp at0 hz => ⟨_, (pss_one (ps_ret (pe_callB (r := rAll K) (cr_all rfl) (by rfl) T.b_all (by decide +kernel) (pa_cons (pe_lc (own := [("k", 1)]) rfl scclimbs.nd (pi_range2 (by rfl) T.b_range (pa_cons pe_int (pa_cons (pe_callB (r := rLenS K) call_len_seq (by rfl) T.b_len (by decide +kernel) (pa_cons (pv 0) pa_nil)) pa_nil))) (blkOk_by (own := [("k", 1)]) (N := ["numbers", "k"]) (sc := defScope sclimbs) (by decide +kernel)) (fun _ _ _ _ _ => (pg_name (i := 1) scclimbs.nd rfl (Or.inl rfl))) (fun _ _ _ _ _ => pts_nil) (fun _ _ _ _ _ => (pe_cmpR op_lt (pe_ix (r := rIxL K) ix_list (pv 0) (pe_op op_sub (pv 1) pe_int) (fun _ _ => rfl)) (pe_ix (r := rIxL K) ix_list (pv 0) (pv 1) (fun _ _ => rfl)) (nomark _)))) pa_nil)))), fun σ Q en q => ?_⟩
  have n0 := Nx.refl at0
  have sm : i.length ≤ 30000 := hp
  refine q_ret at0 n0 en ((ty_all (ty_lcR2 (p := fun _ => true) (f := fun x : Int => decide (i.getD (x - 1).toNat 0 < i.getD x.toNat 0)) (ta_cons ty_i (ta_cons (ty_len (ty_var rfl)) ta_nil)) (by decide) ⟨by omega, by omega⟩ (by omega) (by simp) (fun x _ _ => tt_yes) fun x h1 h2 _ => ?_)).to (climbs_eq i)) hz q
  exact ty_B0 (ty_ix (ty_var rfl) (ty_I0 (ty_var rfl) ty_i) (atI_in (by omega) (by omega))) (ty_ix (ty_var rfl) (ty_var rfl) (atI_in (by omega) h2))
abbrev sare_places : Stmt := topS 14
theorem scare_places : FnScope ["width", "value"] ["width", "value"] (defScope sare_places) := ⟨rfl, rfl, rfl, by decide +kernel, rfl, by decide +kernel, by decide +kernel⟩
theorem ok_are_places {f : Addr} {fd : FuncData} (F : Df K "are_places" "are_places" sare_places [] f fd) (T : TN mg)  (Fare_words : Fo P w K mg base "are_words" 4 ["width", "value"] cAreWords.sp) (Fclimbs : Fo P w K mg base "climbs" 1 ["numbers"] cClimbs.sp) :
    FnOk P w K mg base CX0 5 f fd ["width", "value"] cArePlaces.sp := by
  refine con_go F scare_places cArePlaces (fun _ => rfl) fun cdv A outer s H E i G z0 B0 hr hp at0 hz => ⟨_, (pss_one (ps_ret (pe_and (pe_fo Fare_words (hr.mono (by decide)) (by rfl) (pa_cons (pv 0) (pa_cons (pv 1) pa_nil))) (pe_and (pe_cmpR op_gt (pe_callB (r := rLenS K) call_len_seq (by rfl) T.b_len (by decide +kernel) (pa_cons (pv 1) pa_nil)) pe_int (nomark _)) (pe_one (pe_fo Fclimbs (hr.mono (by decide)) (by rfl) (pa_cons (pv 1) pa_nil))))))), fun σ Q en q => ?_⟩
  have n0 := Nx.refl at0
  obtain ⟨wd, d⟩ := i
  obtain ⟨hw, sm⟩ := hp
  refine q_ret at0 n0 en ((ty_andV (c2 := 0) (b := placesB wd d) (y_areWords (ty_var rfl) (ty_var rfl) ⟨hw, sm⟩) fun h => ?_).to (by cases d <;> first | rfl | (show (wordsB wd _ && placesB wd _) = placesB wd _; unfold wordsB placesB; dsimp only; rw [← Bool.and_assoc, Bool.and_self]))) hz q
  cases d with
  | lst ds =>
    have all : ds.all (Dat.word wd) = true := h
    have sm' : ds.length ≤ 30000 := sm
    have tyw : Ty G 0 (tVar 1) (ctx0 2 (cArePlaces.args (wd, .lst ds))) (· = ds.map Dat.toI) := (ty_var (x := Dat.lst ds) rfl).intsOf (words_whole all)
    refine (ty_andV (ty_B0 (ty_len ((ty_var (x := Dat.lst ds) rfl).lstDat)) ty_i) fun _ => y_climbs tyw (by rw [List.length_map]; exact sm')).to ?_
    show (decide ((0 : Int) < (ds.length : Int)) && climbs (ds.map Dat.toI)) = (ds.all (Dat.word wd) && (decide (0 < ds.length) && climbs (ds.map Dat.toI)))
    rw [all, Bool.true_and, decide_eq_decide.mpr (show (0 : Int) < (ds.length : Int) ↔ 0 < ds.length by omega)]
  | _ => cases h
abbrev sneed_width : Stmt := topS 16
theorem scneed_width : FnScope ["width"] ["width"] (defScope sneed_width) := ⟨rfl, rfl, rfl, by decide +kernel, rfl, by decide +kernel, by decide +kernel⟩
theorem ok_need_width {f : Addr} {fd : FuncData} (F : Df K "need_width" "need_width" sneed_width [] f fd) (T : TN mg)  (Ffits_width : Fo P w K mg base "fits_width" 3 ["value"] cFitsWidth.sp) :
    FnOk P w K mg base CX0 4 f fd ["width"] cNeedWidth.sp := by
  refine con_go F scneed_width cNeedWidth (fun _ => rfl) fun cdv A outer s H E i G z0 B0 hr hp at0 hz => ⟨_, (pss_one (ps_if (pt_not (pt_val (pe_fo Ffits_width (hr.mono (by decide)) (by rfl) (pa_cons (pv 0) pa_nil)))) (pss_one ps_never) pss_nil)), fun σ Q en q => ?_⟩
  have n0 := Nx.refl at0
  have hw : 1 ≤ i ∧ i ≤ 64 := hp
  refine s_not at0 n0 en ((tt_notD (tt_B (y_fitsWidth ((ty_var (x := i) rfl).datInt)))).to ?_) hz fun z' B' H' _ n en => q () .non z' B' H' trivial n rfl
  show (!(decide ((1 : Int) ≤ i) && decide (i ≤ 64))) = false
  rw [decide_eq_true hw.1, decide_eq_true hw.2] <;> rfl
abbrev sneed_places : Stmt := topS 17
theorem scneed_places : FnScope ["width", "places"] ["width", "places"] (defScope sneed_places) := ⟨rfl, rfl, rfl, by decide +kernel, rfl, by decide +kernel, by decide +kernel⟩
theorem ok_need_places {f : Addr} {fd : FuncData} (F : Df K "need_places" "need_places" sneed_places [] f fd) (T : TN mg)  (Fare_places : Fo P w K mg base "are_places" 5 ["width", "value"] cArePlaces.sp) :
    FnOk P w K mg base CX0 6 f fd ["width", "places"] cNeedPlaces.sp := by
  refine con_go F scneed_places cNeedPlaces (fun _ => rfl) fun cdv A outer s H E i G z0 B0 hr hp at0 hz => ⟨_, (pss_one (ps_if (pt_not (pt_val (pe_fo Fare_places (hr.mono (by decide)) (by rfl) (pa_cons (pv 0) (pa_cons (pv 1) pa_nil))))) (pss_one ps_never) pss_nil)), fun σ Q en q => ?_⟩
  have n0 := Nx.refl at0
  obtain ⟨wd, ps⟩ := i
  obtain ⟨hw, hpl, sm⟩ := hp
  refine s_not at0 n0 en ((tt_notD (tt_B (y_arePlaces (ty_var rfl) ((ty_var (x := ps) rfl).datInts.datLst) ⟨hw, by show (ps.map Dat.int).length ≤ 30000; rw [List.length_map]; exact sm⟩))).to ?_) hz fun z' B' H' _ n en => q () .non z' B' H' trivial n rfl
  rw [hpl] <;> rfl
abbrev scosts_at_first : Stmt := topS 19
theorem sccosts_at_first : FnScope ["places", "place"] ["places"] (defScope scosts_at_first) := ⟨rfl, rfl, rfl, by decide +kernel, rfl, by decide +kernel, by decide +kernel⟩
theorem ok_costs_at_first {f : Addr} {fd : FuncData} (F : Df K "costs_at_first" "costs_at_first" scosts_at_first [] f fd) (T : TN mg)   :
    FnOk P w K mg base CX0 1 f fd ["places"] cCosts0.sp := by
  refine con_go F sccosts_at_first cCosts0 (fun _ => rfl) fun cdv A outer s H E i G z0 B0 hr hp at0 hz => ⟨_, (pss_one (ps_ret (pe_dc (own := [("place", 1)]) rfl sccosts_at_first.nd (pi_list (pv 0)) (blkOk_by (own := [("place", 1)]) (N := ["places", "place"]) (sc := defScope scosts_at_first) (by decide +kernel)) (fun _ _ _ _ _ => (pg_name (i := 1) sccosts_at_first.nd rfl (Or.inl rfl))) (fun _ _ _ _ _ => pts_nil) (fun _ _ _ _ _ => (pv 1)) (fun _ _ _ _ _ => pe_int)))), fun σ Q en q => ?_⟩
  have n0 := Nx.refl at0
  obtain ⟨nd, sm⟩ := hp
  have sm' : i.length ≤ 30000 := sm
  have lk : ((i.map fun p : Int => (p, (0 : Int))).map (·.1)) = i := by rw [List.map_map]; exact List.map_id _
  have gd : ∀ k, k < i.length → i[k]? = some ((i.map fun p : Int => (p, (0 : Int))).getD k (0, 0)).1 := fun k hk => by
    rw [List.getD_eq_getElem?_getD, List.getElem?_map, List.getElem?_eq_getElem hk] <;> rfl
  refine q_ret at0 n0 en ((ty_dc (m := i.length) (p := fun k => (fun _ : Int × Int => true) ((i.map fun p : Int => (p, (0 : Int))).getD k (0, 0))) (kf := fun k => ((i.map fun p : Int => (p, (0 : Int))).getD k (0, 0)).1) (vf := fun k => (fun _ : Int × Int => (0 : Int)) ((i.map fun p : Int => (p, (0 : Int))).getD k (0, 0))) (ti_list (ty_var (x := i) rfl)) (by omega) (by simp) (fun k hk => tt_yes) (fun k hk _ => ?_) (fun k hk _ => ty_i) fun k hk _ => ?_).to ?_) hz q
  · rw [itm_eq (gd k hk)]
    exact ty_var rfl
  · have := keeps_nd (xs := i.map fun p : Int => (p, (0 : Int))) (p := fun _ => true) (vf := fun _ => 0) (by rw [lk]; exact nd) (i := k) (by rw [List.length_map]; exact hk)
    exact this
  · have := keeps_list (xs := i.map fun p : Int => (p, (0 : Int))) (p := fun _ => true) (kf := fun x => x.1) (vf := fun _ => 0)
    rw [List.length_map, List.filter_eq_self.mpr fun _ _ => rfl, List.map_map] at this
    exact congrArg DictI.mk this
abbrev scosts_behind : Stmt := topS 20
theorem sccosts_behind : FnScope ["costs", "taken", "place", "cost"] ["costs", "taken"] (defScope scosts_behind) := ⟨rfl, rfl, rfl, by decide +kernel, rfl, by decide +kernel, by decide +kernel⟩
theorem ok_costs_behind {f : Addr} {fd : FuncData} (F : Df K "costs_behind" "costs_behind" scosts_behind [] f fd) (T : TN mg)  (Ftwos_of : Fo P w K mg base "twos_of" 1 ["number"] cTwosIn.sp) :
    FnOk P w K mg base CX0 2 f fd ["costs", "taken"] cBehind.sp := by
  refine con_go F sccosts_behind cBehind (fun _ => rfl) fun cdv A outer s H E i G z0 B0 hr hp at0 hz => ⟨_, (pss_one (ps_ret (pe_lock (pe_dc (own := [("place", 2), ("cost", 3)]) (g := gTup K 2 (gCons (gName 2) (gCons (gName 3) gNil))) rfl sccosts_behind.nd (pi_items (pv 0)) (blkOk_by (own := [("place", 2), ("cost", 3)]) (N := ["costs", "taken", "place", "cost"]) (sc := defScope scosts_behind) (by decide +kernel)) (fun _ _ _ _ _ => (pg_tup rfl (pgs_cons (pg_name (i := 2) sccosts_behind.nd rfl (Or.inl rfl)) (pgs_cons (pg_name (i := 3) sccosts_behind.nd rfl (Or.inl rfl)) pgs_nil)))) (fun _ _ _ _ _ => (pts_one (pt_cmpR op_ne (pv 2) (pv 1) (nomark _)))) (fun _ _ _ _ _ => (pv 2)) (fun _ _ _ _ _ => (pe_op op_add (pv 3) (pe_fo Ftwos_of (hr.mono (by decide)) (by rfl) (pa_cons (pe_op op_sub (pv 2) (pv 1)) pa_nil)))))))), fun σ Q en q => ?_⟩
  have n0 := Nx.refl at0
  obtain ⟨⟨kvs⟩, t⟩ := i
  obtain ⟨nd, sm⟩ := hp
  have nd : (kvs.map (·.1)).Nodup := nd
  have sm : kvs.length ≤ 30000 := sm
  have g1 : ∀ k, k < kvs.length → (kvs.map (·.1))[k]? = some (kvs.getD k (0, 0)).1 := fun k hk => by
    rw [List.getElem?_map, List.getD_eq_getElem?_getD, List.getElem?_eq_getElem hk] <;> rfl
  have g2 : ∀ k, k < kvs.length → (kvs.map (·.2))[k]? = some (kvs.getD k (0, 0)).2 := fun k hk => by
    rw [List.getElem?_map, List.getD_eq_getElem?_getD, List.getElem?_eq_getElem hk] <;> rfl
  refine q_ret at0 n0 en (ty_lock (D := ⟨kvs⟩) (i := 0) (Γf := [none, some (Py.is t), none, none]) fl_dict rfl rfl (fun j P hj => ?_) fun d o => (ty_dc (m := kvs.length) (p := fun k => (fun x : Int × Int => !decide (x.1 = t)) (kvs.getD k (0, 0))) (kf := fun k => (kvs.getD k (0, 0)).1) (vf := fun k => (fun x : Int × Int => x.2 + twos (x.1 - t)) (kvs.getD k (0, 0))) (ti_items (d := d) (o := o) (D := ⟨kvs⟩) rfl) (by omega) (by simp) (fun k hk => ?_) (fun k hk _ => ?_) (fun k hk hpk => ?_) fun k hk _ => ?_).to ?_) hz q
  · rcases j with _ | _ | _ | _ | j
    · cases hj
    · cases (Option.some.inj (Option.some.inj hj) : Py.is t = P)
      exact ⟨rfl, flat_int t⟩
    · cases hj
    · cases hj
    · simp at hj
  · show TyT G 0 _ (((wipeC _ _).set 2 (some (itm (kvs.map (·.1)) k))).set 3 (some (itm (kvs.map (·.2)) k))) _
    rw [itm_eq (g1 k hk), itm_eq (g2 k hk)]
    exact tt_test (ty_neI (ty_var (x := (kvs.getD k (0, 0)).1) rfl) (ty_var (x := t) rfl))
  · show AP.Ty G 0 _ (((wipeC _ _).set 2 (some (itm (kvs.map (·.1)) k))).set 3 (some (itm (kvs.map (·.2)) k))) _
    rw [itm_eq (g1 k hk), itm_eq (g2 k hk)]
    exact ty_var rfl
  · show AP.Ty G 0 _ (((wipeC _ _).set 2 (some (itm (kvs.map (·.1)) k))).set 3 (some (itm (kvs.map (·.2)) k))) _
    rw [itm_eq (g1 k hk), itm_eq (g2 k hk)]
    have hne : (kvs.getD k (0, 0)).1 - t ≠ 0 := by
      have : ¬ (kvs.getD k (0, 0)).1 = t := by simpa using hpk
      omega
    exact ty_I0 (f := fun a b => a + b) (ty_var (x := (kvs.getD k (0, 0)).2) rfl) (y_twosIn (ty_I0 (f := fun a b => a - b) (ty_var (x := (kvs.getD k (0, 0)).1) rfl) (ty_var (x := t) rfl)) hne)
  · exact keeps_nd (p := fun x => !decide (x.1 = t)) (vf := fun x => x.2 + twos (x.1 - t)) nd hk
  · have := keeps_list (xs := kvs) (p := fun x => !decide (x.1 = t)) (kf := fun x => x.1) (vf := fun x => x.2 + twos (x.1 - t))
    refine congrArg DictI.mk (this.trans ?_)
    unfold behind
    congr 1
    exact List.filter_congr fun x _ => by simp
abbrev sordered : Stmt := topS 21
theorem scordered : FnScope ["places", "order", "numbers", "costs", "least", "place", "left", "cost"] ["places"] (defScope sordered) := ⟨rfl, rfl, rfl, by decide +kernel, rfl, by decide +kernel, by decide +kernel⟩
theorem ok_orderedN {f : Addr} {fd : FuncData} (F : Df K "ordered" "ordered" sordered [] f fd) (T : TN mg)  (Fcosts_at_first : Fo P w K mg base "costs_at_first" 1 ["places"] cCosts0.sp) (Fcosts_behind : Fo P w K mg base "costs_behind" 2 ["costs", "taken"] cBehind.sp) :
    FnOk P w K mg base CX0 3 f fd ["places"] cOrderedP.spN := by
  refine con_goN F scordered cOrderedP (fun _ => rfl) fun cdv A outer s H E i G z0 B0 hr hp at0 hz => ⟨_, (pss_cons (ps_set (i := 1) scordered.nd rfl (.inl rfl) (pe_lst pa_nil))
     (pss_cons (ps_set (i := 2) scordered.nd rfl (.inl rfl) (pe_lst pa_nil))
     (pss_cons (ps_set (i := 3) scordered.nd rfl (.inl rfl) (pe_fo Fcosts_at_first (hr.mono (by decide)) (by rfl) (pa_cons (pv 0) pa_nil)))
     (pss_cons (ps_while PassesOwn.never (pt_truth (pv 3) (by intro _; rfl))
      (pss_cons (ps_set (i := 4) scordered.nd rfl (.inr rfl) (pe_minVals rfl (by rfl) T.b_min (pv 3)))
       (pss_cons (ps_set (i := 5) scordered.nd rfl (.inl rfl) (pe_ix (r := rIxL K) ix_list (pe_lock (pe_lc (own := [("left", 6), ("cost", 7)]) (g := gTup K 2 (gCons (gName 6) (gCons (gName 7) gNil))) rfl scordered.nd (pi_items (pv 3)) (blkOk_by (own := [("left", 6), ("cost", 7)]) (N := ["places", "order", "numbers", "costs", "least", "place", "left", "cost"]) (sc := defScope sordered) (by decide +kernel)) (fun _ _ _ _ _ => (pg_tup rfl (pgs_cons (pg_name (i := 6) scordered.nd rfl (Or.inl rfl)) (pgs_cons (pg_name (i := 7) scordered.nd rfl (Or.inl rfl)) pgs_nil)))) (fun _ _ _ _ _ => (pts_one (pt_cmpR op_eq (pv 7) (pv 4) (nomark _)))) (fun _ _ _ _ _ => (pv 6)))) pe_int (fun _ _ => rfl)))
       (pss_cons (ps_expr (pe_bm PySem.F.plainAttrs_list PySem.F.slot_list_append PySem.F.type_list_append mt_append (pv 1) (pa_cons (pv 5) pa_nil)))
       (pss_cons (ps_expr (pe_bm PySem.F.plainAttrs_list PySem.F.slot_list_append PySem.F.type_list_append mt_append (pv 2) (pa_cons (pv 4) pa_nil)))
       (pss_one (ps_set (i := 3) scordered.nd rfl (.inl rfl) (pe_fo Fcosts_behind (hr.mono (by decide)) (by rfl) (pa_cons (pv 3) (pa_cons (pv 5) pa_nil))))))))))
     (pss_one (ps_ret (pe_tup (pa_cons (pv 1) (pa_cons (pv 2) pa_nil))))))))), fun σ Q en q => ?_⟩
  have n0 := Nx.refl at0
  obtain ⟨nd, sm⟩ := hp
  have sm' : i.length ≤ 30000 := sm
  have hz1 : z0 + 0 ≤ 2 ^ 50 := hz
  refine q_newS at0 n0 en fun l1 σ' nl1 n en b1 h1 => ?_
  refine q_newS at0 n en fun l2 σ' nl2 n en b2 h2 => ?_
  have l12 : l1 ≠ l2 := fun e => by rw [← e, upd_same] at nl2; cases nl2
  have hl1 : (upd (upd H l1 (.lst [])) l2 (.lst [])) l1 = some (.lst []) := by rw [upd_ne l12, upd_same]
  have hl2 : (upd (upd H l1 (.lst [])) l2 (.lst [])) l2 = some (.lst []) := upd_same
  have g1 : G ≠ some l1 := fun hg => by obtain ⟨_, _, _, q1, _⟩ := at0.gen l1 hg; rw [q1] at h1; cases h1
  have g2 : G ≠ some l2 := fun hg => by obtain ⟨_, _, _, q1, _⟩ := at0.gen l2 hg; rw [q1] at h2; cases h2
  refine q_asgS at0 n en (i := 3) (y_costs0 (ty_var (x := i) rfl) ⟨nd, sm'⟩) hz fun d0 z' B' H' σ' e0 s1 n en => ?_
  have keepL : ∀ {za zb : Int} {Ba Ha Bb Hb : Hp} {c : Nat} {l : Addr} {us : List V}, G ≠ some l → Nx G c za Ba Ha zb Bb Hb → Ha l = some (.lst us) → Ba l = none → Hb l = some (.lst us) ∧ Bb l = none := fun {za zb Ba Ha Bb Hb c l us} hg nx hl hb => by
    refine ⟨nx.keep l _ hg hl, ?_⟩
    cases e : Bb l with
    | none => rfl
    | some u =>
      rcases nx.new l u e with h | h
      · rw [hb] at h; cases h
      · exact (h.no hl).elim
  obtain ⟨hl1, b1⟩ := keepL g1 s1 hl1 b1
  obtain ⟨hl2, b2⟩ := keepL g2 s1 hl2 b2
  subst e0
  refine q_while (D := { ({ nx := fun _ H' => Q .non H', rt := Q } : Ends) with nx := tRet (tTup (tCons (tVar 1) (tCons (tVar 2) tNil))) { nx := fun _ H' => Q .non H', rt := Q } }) (cb := 0) at0 n en
    (fun _ m Γ B H => ∃ (kvs done : KC) (o4 o5 o6 o7 : Option VP), m = kvs.length ∧ KcOk kvs ∧ done ++ orun kvs.length kvs = run0 i ∧ done.length + kvs.length = i.length ∧
      Γ = [some (Py.is i), some (RefP l1), some (RefP l2), some (Py.is (DictI.mk kvs)), o4, o5, o6, o7] ∧ (H l1 = some (.lst ((done.map (·.1)).map V.int)) ∧ B l1 = none) ∧ (H l2 = some (.lst ((done.map (·.2)).map V.int)) ∧ B l2 = none))
    i.length ⟨i.map fun p => (p, 0), [], none, none, none, none, (List.length_map ..).symm, ⟨by rw [List.map_map]; exact (show (i.map id).Nodup by rw [List.map_id]; exact nd), by rw [List.length_map]; exact sm'⟩, by rw [List.length_map]; rfl, by rw [List.length_map]; simp, rfl, ⟨hl1, b1⟩, ⟨hl2, b2⟩⟩
    (fun k m Γ' z' B' H' σ' inv n en => ?_)
  obtain ⟨kvs, done, o4, o5, o6, o7, em, ok, eq, el, rfl, ⟨hl1, b1⟩, ⟨hl2, b2⟩⟩ := inv
  refine ⟨!kvs.isEmpty, fun R hR => tt_dict (c := 0) (ty_var (x := DictI.mk kvs) rfl) z' B' σ' H' en n.at_ (by have := n.hi; simp at this; omega) R fun b z2 B2 H2 eb n2 => by subst eb; exact hR z2 B2 H2 n2 (en.up n2.up), fun hb z2 B2 H2 s2 en => ?_, fun hb z2 B2 H2 s2 n en => ?_⟩
  · -- a turn
    have n := (n.trans at0 s2).le (c2 := 0 + (k + 1) * 0) (by simp)
    obtain ⟨hl1, b1⟩ := keepL g1 s2 hl1 b1
    obtain ⟨hl2, b2⟩ := keepL g2 s2 hl2 b2
    have ne : kvs ≠ [] := fun e => by rw [e] at hb; cases hb
    obtain ⟨x, hx, xm, least, first⟩ := pick_some ne
    have hzk : z0 + ((0 + (k + 1) * 0 + 0 : Nat) : Int) ≤ 2 ^ 50 := by simpa using hz1
    refine ⟨fun σ3 H3 => ∃ m' Γ3 z3 B3, m' < m ∧ (∃ (kvs done : KC) (o4 o5 o6 o7 : Option VP), m' = kvs.length ∧ KcOk kvs ∧ done ++ orun kvs.length kvs = run0 i ∧ done.length + kvs.length = i.length ∧
      Γ3 = [some (Py.is i), some (RefP l1), some (RefP l2), some (Py.is (DictI.mk kvs)), o4, o5, o6, o7] ∧ (H3 l1 = some (.lst ((done.map (·.1)).map V.int)) ∧ B3 l1 = none) ∧ (H3 l2 = some (.lst ((done.map (·.2)).map V.int)) ∧ B3 l2 = none)) ∧ Nx G (0 + (k + 1) * 0) z0 B0 H z3 B3 H3 ∧ Slo B3 σ3 Γ3, fun σ3 H3 h => h, ?_⟩
    refine q_asgS at0 n en (i := 4) (ty_minVals (ty_var (x := DictI.mk kvs) rfl) ne) hzk fun lm z3 B3 H3 σ3 hlm s3 n en => ?_
    obtain ⟨hl1, b1⟩ := keepL g1 s3 hl1 b1
    obtain ⟨hl2, b2⟩ := keepL g2 s3 hl2 b2
    have elm : lm = x.2 := by
      obtain ⟨y, hy, ey⟩ := List.mem_map.mp hlm.1
      have a := least y hy
      have b := hlm.2 x.2 (List.mem_map.mpr ⟨x, xm, rfl⟩)
      omega
    subst elm
    have q1 : ∀ k, k < kvs.length → (kvs.map (·.1))[k]? = some (kvs.getD k (0, 0)).1 := fun k hk => by
      rw [List.getElem?_map, List.getD_eq_getElem?_getD, List.getElem?_eq_getElem hk] <;> rfl
    have q2 : ∀ k, k < kvs.length → (kvs.map (·.2))[k]? = some (kvs.getD k (0, 0)).2 := fun k hk => by
      rw [List.getElem?_map, List.getD_eq_getElem?_getD, List.getElem?_eq_getElem hk] <;> rfl
    have okl : kvs.length ≤ 30000 := ok.2
    have lst : AP.Ty G 0 (tLockE (tLc (iItems (tVar 3)) (gTup K 2 (gCons (gName 6) (gCons (gName 7) gNil))) (tTest (tOp rEq (tVar 7) (tVar 4))) (tVar 6) [6, 7])) [some (Py.is i), some (RefP l1), some (RefP l2), some (Py.is (DictI.mk kvs)), some (Py.is x.2), o5, o6, o7] (· = (kvs.filter fun p => decide (p.2 = x.2)).map (·.1)) := by
      refine ty_lock (D := ⟨kvs⟩) (i := 3) (Γf := [none, none, none, none, some (Py.is x.2), none, none, none]) fl_ints rfl rfl (fun j P hj => ?_) fun d o => Ty.le (c1 := 0 + kvs.length * (0 + 0)) ((ty_lc (M := kvs.length) (T := fun t b => b = (fun p : Int × Int => decide (p.2 = x.2)) (kvs.getD t (0, 0))) (A := fun t y => y = (fun p : Int × Int => p.1) (kvs.getD t (0, 0))) (ti_items (d := d) (o := o) (D := ⟨kvs⟩) rfl) (fun m e => Nat.le_of_eq e) (by omega) (by simp) (fun m em t ht => ?_) fun m em t ht _ => ?_).imp fun ys ⟨m, em, sel⟩ => ?_) (by simp)
      · rcases j with _ | _ | _ | _ | _ | _ | _ | _ | j
        · cases hj
        · cases hj
        · cases hj
        · cases hj
        · cases (Option.some.inj (Option.some.inj hj) : Py.is x.2 = P)
          exact ⟨rfl, flat_int _⟩
        · cases hj
        · cases hj
        · cases hj
        · simp at hj
      · subst em
        show TyT G 0 _ (((wipeC _ _).set 6 (some (itm (kvs.map (·.1)) t))).set 7 (some (itm (kvs.map (·.2)) t))) _
        rw [itm_eq (q1 t ht), itm_eq (q2 t ht)]
        exact tt_test (ty_eqI (ty_var (x := (kvs.getD t (0, 0)).2) rfl) (ty_var (x := x.2) rfl))
      · subst em
        show AP.Ty G 0 _ (((wipeC _ _).set 6 (some (itm (kvs.map (·.1)) t))).set 7 (some (itm (kvs.map (·.2)) t))) _
        rw [itm_eq (q1 t ht), itm_eq (q2 t ht)]
        exact ty_var rfl
      · subst em
        rw [sel_det _ _ (fun _ _ q => q) (fun _ _ q => q) sel]
        exact sel_list (xs := kvs) (p := fun p => decide (p.2 = x.2)) (kf := fun p => p.1)
    refine q_asgS at0 n en (i := 5) (ty_ix lst ty_i (x := x.1) (by exact atI_nat (j := 0) first)) (by simpa using hz1) fun pl z4 B4 H4 σ4 epl s4 n en => ?_
    subst epl
    obtain ⟨hl1, b1⟩ := keepL g1 s4 hl1 b1
    obtain ⟨hl2, b2⟩ := keepL g2 s4 hl2 b2
    refine q_appS at0 n en (k := 1) rfl hl1 b1 h1 (by simp only [List.length_map]; omega) (ty_var (x := x.1) rfl) (by simpa using hz1) fun y v z5 B5 H5 ey hv up5 n en hl1 b1 keep5 new5 => ?_
    subst ey
    cases (show v = .int x.1 from hv)
    have hl2' := keep5 l2 _ g2 l12.symm hl2
    have b2' : B5 l2 = none := by
      cases e : B5 l2 with
      | none => rfl
      | some u =>
        rcases new5 l2 u e with h | h
        · rw [b2] at h; cases h
        · exact (h.no hl2).elim
    refine q_appS at0 n en (k := 2) rfl hl2' b2' h2 (by simp only [List.length_map]; omega) (ty_var (x := x.2) rfl) (by simpa using hz1) fun y v z6 B6 H6 ey hv up6 n en hl2 b2 keep6 new6 => ?_
    subst ey
    cases (show v = .int x.2 from hv)
    have hl1' := keep6 l1 _ g1 l12 hl1
    have b1' : B6 l1 = none := by
      cases e : B6 l1 with
      | none => rfl
      | some u =>
        rcases new6 l1 u e with h | h
        · rw [b1] at h; cases h
        · exact (h.no hl1).elim
    refine q_asg at0 n en (i := 3) (y_behind (ty_var (x := DictI.mk kvs) rfl) (ty_var (x := x.1) rfl) ok) (by simpa using hz1) fun d z7 B7 H7 σ7 ed s7 n en => ?_
    subst ed
    obtain ⟨hl1, b1⟩ := keepL g1 s7 hl1' b1'
    obtain ⟨hl2, b2⟩ := keepL g2 s7 hl2 b2
    have bl := behind_len ok.1 (List.mem_map.mpr ⟨x, xm, rfl⟩)
    refine ⟨(behind kvs x.1).length, _, z7, B7, by omega, ⟨behind kvs x.1, done ++ [x], _, _, _, _, rfl, ⟨behind_nodup ok.1, by omega⟩, ?_, ?_, rfl, ⟨?_, b1⟩, ⟨?_, b2⟩⟩, n.le (by simp), en⟩
    · rw [← eq, orun_cons ok.1 hx xm, List.append_assoc]
      rfl
    · rw [List.length_append]
      simp
      omega
    · rw [hl1, List.map_append, List.map_append]
      rfl
    · rw [hl2, List.map_append, List.map_append]
      rfl
  · -- the end
    obtain ⟨hl1, b1⟩ := keepL g1 s2 hl1 b1
    obtain ⟨hl2, b2⟩ := keepL g2 s2 hl2 b2
    have e0 : kvs = [] := by cases kvs with
      | nil => rfl
      | cons _ _ => cases hb
    subst e0
    have ed : done = run0 i := by
      rw [← eq]
      show done = done ++ []
      rw [List.append_nil]
    subst ed
    obtain ⟨n, up1⟩ := n.freeze at0 hl1 b1 h1
    obtain ⟨n, up2⟩ := n.freeze at0 hl2 (by rw [upd_ne l12.symm]; exact b2) h2
    have en := (en.up up1).up up2
    have enR := en
    have p1 : Py.is (orderOf i) (.ref l1) (upd (upd B2 l1 (.lst ((run0 i |>.map (·.1)).map V.int))) l2 (.lst ((run0 i |>.map (·.2)).map V.int))) := Py.of_ints (by rw [upd_ne l12, upd_same] <;> rfl)
    have p2 : Py.is (numbersOf i) (.ref l2) (upd (upd B2 l1 (.lst ((run0 i |>.map (·.1)).map V.int))) l2 (.lst ((run0 i |>.map (·.2)).map V.int))) := Py.of_ints upd_same
    have en := en.renew (k := 1) rfl (Py.stays _) p1
    have en := en.renew (k := 2) rfl (Py.stays _) p2
    have b10 : B0 l1 = none := at0.none h1
    have b20 : B0 l2 = none := at0.none h2
    have q1 : NewL B0 l1 (orderOf i) (.ref l1) (upd (upd B2 l1 (.lst ((run0 i |>.map (·.1)).map V.int))) l2 (.lst ((run0 i |>.map (·.2)).map V.int))) := ⟨rfl, by unfold diff; rw [if_pos b10, upd_ne l12, upd_same] <;> rfl⟩
    have q2 : NewL B0 l2 (numbersOf i) (.ref l2) (upd (upd B2 l1 (.lst ((run0 i |>.map (·.1)).map V.int))) l2 (.lst ((run0 i |>.map (·.2)).map V.int))) := ⟨rfl, by unfold diff; rw [if_pos b20, upd_same] <;> rfl⟩
    have en := enR.renew (k := 1) rfl NewL.stays q1
    have en := en.renew (k := 2) rfl NewL.stays q2
    exact q_retD at0 n en (td_pairN (i := 1) (j := 2) rfl rfl l12) (by simpa using hz1) fun x v z' B' H' e n h => q x v z' B' H' e (n.le (by simp)) h
abbrev sgood_order : Stmt := topS 23
theorem scgood_order : FnScope ["width", "places"] ["width", "places"] (defScope sgood_order) := ⟨rfl, rfl, rfl, by decide +kernel, rfl, by decide +kernel, by decide +kernel⟩
theorem ok_good_orderN {f : Addr} {fd : FuncData} (F : Df K "good_order" "good_order" sgood_order [] f fd) (T : TN mg)  (Fneed_width : Fo P w K mg base "need_width" 4 ["width"] cNeedWidth.sp) (Fneed_places : Fo P w K mg base "need_places" 6 ["width", "places"] cNeedPlaces.sp) (Fordered : Fo P w K mg base "ordered" 3 ["places"] cOrderedP.spN) :
    FnOk P w K mg base CX0 7 f fd ["width", "places"] cGoodP.spN := by
  refine con_goN F scgood_order cGoodP (fun _ => rfl) fun cdv A outer s H E i G z0 B0 hr hp at0 hz => ⟨_, (pss_cons (ps_expr (pe_fo Fneed_width (hr.mono (by decide)) (by rfl) (pa_cons (pv 0) pa_nil)))
     (pss_cons (ps_expr (pe_fo Fneed_places (hr.mono (by decide)) (by rfl) (pa_cons (pv 0) (pa_cons (pv 1) pa_nil))))
     (pss_one (ps_ret (pe_fo Fordered (hr.mono (by decide)) (by rfl) (pa_cons (pv 1) pa_nil)))))), fun σ Q en q => ?_⟩
  have n0 := Nx.refl at0
  obtain ⟨wd, ps⟩ := i
  obtain ⟨hw, hpl⟩ := hp
  exact q_dropS at0 n0 en (y_needWidth (ty_var (x := wd) rfl) hw) hz fun _ z' B' H' _ _ n en => q_dropS at0 n en (y_needPlaces (ty_var (x := wd) rfl) (ty_var (x := ps) rfl) ⟨hw, hpl⟩) hz fun _ z' B' H' _ _ n en => q_retN at0 n en (tn_call (C := cOrderedP) ps (ta_cons (ty_var (x := ps) rfl) ta_nil) ⟨hpl.nodup.1, hpl.2⟩) hz q
end
end K05
set_option maxHeartbeats 4000000
namespace K05
open PySem PySem.Spec PyProof.Rows L2 AP Evl
theorem wholes_ints {v : List Int} : wholesB (DatOf.toD v) = true := by
  show (v.map Dat.int).all Dat.whole = true
  rw [List.all_map, List.all_eq_true]
  exact fun _ _ => rfl
theorem places_up {w : Int} {ps : List Int} (h : Places w ps) : ps.Nodup ∧ ps.Pairwise (· < ·) := by
  refine ⟨h.nodup.1, ?_⟩
  obtain ⟨h, _⟩ := h
  have h : ((ps.map Dat.int).all (Dat.word w) && (decide (0 < (ps.map Dat.int).length) && climbs ((ps.map Dat.int).map Dat.toI))) = true := h
  rw [List.map_map, show ps.map (Dat.toI ∘ Dat.int) = ps from List.map_id _] at h
  simp only [Bool.and_eq_true] at h
  obtain ⟨_, _, h3⟩ := h
  unfold climbs at h3
  rw [List.all_eq_true] at h3
  have step : ∀ i, i + 1 < ps.length → ps.getD i 0 < ps.getD (i + 1) 0 := fun i hi => of_decide_eq_true (h3 i (List.mem_range.mpr (by omega)))
  have lt : ∀ i j, i < j → j < ps.length → ps.getD i 0 < ps.getD j 0 := by
    intro i j hij
    induction j with
    | zero => omega
    | succ j ih =>
      intro hj
      rcases Nat.lt_or_ge i j with h | h
      · exact Int.lt_trans (ih h (by omega)) (step j hj)
      · have : i = j := by omega
        subst this
        exact step i hj
  refine List.pairwise_iff_getElem.mpr fun i j hi hj hij => ?_
  have := lt i j hij hj
  rw [List.getD_eq_getElem?_getD, List.getD_eq_getElem?_getD, List.getElem?_eq_getElem hi, List.getElem?_eq_getElem hj] at this
  exact this
theorem good_next {v : List Int} {k : Nat} (gs : ∀ m, m < k → goodAt v m) (gk : goodAt v k) : ∀ m, m < k + 1 → goodAt v m := fun m h => by
  rcases Nat.lt_or_ge m k with q | q
  · exact gs m q
  · rw [show m = k by omega]; exact gk
section
variable {G : Option Addr} {c0 c1 c2 c3 c4 c5 c6 c7 : Nat} {t0 t1 t2 t3 t4 t5 t6 t7 : TE} {Γ : AP.Ctx} {g : Addr}
theorem z_need_width {wd : Int} {E : XK} (h0 : AP.Ty G c0 t0 Γ (· = wd)) (hpre : wOk wd) : AP.Ty G ((c0 + 0) + 0) (tCall cNeedWidth.sp [] E (tCons t0 tNil)) Γ (fun r : Unit => True) := ty_call (C := cNeedWidth) wd (ta_cons h0 ta_nil) hpre
theorem z_need_places {wd : Int} {ps : (List Int)} {E : XK} (h0 : AP.Ty G c0 t0 Γ (· = wd)) (h1 : AP.Ty G c1 t1 Γ (· = ps)) (hpre : wOk wd ∧ Places wd ps) : AP.Ty G ((c0 + (c1 + 0)) + 0) (tCall cNeedPlaces.sp [] E (tCons t0 (tCons t1 tNil))) Γ (fun r : Unit => True) := ty_call (C := cNeedPlaces) (wd, ps) (ta_cons h0 (ta_cons h1 ta_nil)) hpre
theorem z_are_wholes {d : Dat} {E : XK} (h0 : AP.Ty G c0 t0 Γ (· = d)) (hpre : d.small) : AP.Ty G ((c0 + 0) + 0) (tCall cAreWholes.sp [] E (tCons t0 tNil)) Γ (· = wholesB d) := ty_call (C := cAreWholes) d (ta_cons h0 ta_nil) hpre
theorem z_costs_at_first {ps : (List Int)} {E : XK} (h0 : AP.Ty G c0 t0 Γ (· = ps)) (hpre : ps.Nodup ∧ ps.length ≤ 30000) : AP.Ty G ((c0 + 0) + 0) (tCall cCosts0.sp [] E (tCons t0 tNil)) Γ (· = DictI.mk (ps.map fun p : Int => (p, (0 : Int)))) := ty_call (C := cCosts0) ps (ta_cons h0 ta_nil) hpre
theorem z_costs_behind {kv : DictI} {t : Int} {E : XK} (h0 : AP.Ty G c0 t0 Γ (· = kv)) (h1 : AP.Ty G c1 t1 Γ (· = t)) (hpre : KcOk kv.kvs) : AP.Ty G ((c0 + (c1 + 0)) + 0) (tCall cBehind.sp [] E (tCons t0 (tCons t1 tNil))) Γ (· = DictI.mk (behind kv.kvs t)) := ty_call (C := cBehind) (kv, t) (ta_cons h0 (ta_cons h1 ta_nil)) hpre
def cGoodA : AP.Con (Int × (List Int) × (List Int)) Bool := ⟨fun i => [Py.is i.1, Py.is i.2.1, Py.is i.2.2], fun i G => wOk i.1 ∧ Places i.1 i.2.1 ∧ i.2.2.length ≤ 30000, fun _ => 0, fun i r => r = goodL i.2.1 i.2.2⟩
def cGoodB : AP.Con (Int × (List Int) × Dat) Bool := ⟨fun i => [Py.is i.1, Py.is i.2.1, Py.is i.2.2], fun i G => wOk i.1 ∧ Places i.1 i.2.1 ∧ i.2.2.small ∧ wholesB i.2.2 = false, fun _ => 0, fun i r => r = false⟩
end
section
variable {P : Program} {w : World} {K : PySem.W.Frag} {mg : Str → Option Value} {base : Heap}
abbrev sis_good_order : Stmt := topS 24
theorem scis_good_order : FnScope ["width", "places", "value", "costs", "place"] ["width", "places", "value"] (defScope sis_good_order) := ⟨rfl, rfl, rfl, by decide +kernel, rfl, by decide +kernel, by decide +kernel⟩
theorem ok_good_ints {f : Addr} {fd : FuncData} (F : Df K "is_good_order" "is_good_order" sis_good_order [] f fd) (T : TN mg)  (Fneed_width : Fo P w K mg base "need_width" 4 ["width"] cNeedWidth.sp) (Fneed_places : Fo P w K mg base "need_places" 6 ["width", "places"] cNeedPlaces.sp) (Fcosts_at_first : Fo P w K mg base "costs_at_first" 1 ["places"] cCosts0.sp) (Fcosts_behind : Fo P w K mg base "costs_behind" 2 ["costs", "taken"] cBehind.sp) (Fare_wholes : Fo P w K mg base "are_wholes" 2 ["value"] cAreWholes.sp) :
    FnOk P w K mg base CX0 7 f fd ["width", "places", "value"] cGoodA.sp := by
  refine con_go F scis_good_order cGoodA (fun _ => rfl) fun cdv A outer s H E i G z0 B0 hr hp at0 hz => ⟨_, (pss_cons (ps_expr (pe_fo Fneed_width (hr.mono (by decide)) (by rfl) (pa_cons (pv 0) pa_nil)))
     (pss_cons (ps_expr (pe_fo Fneed_places (hr.mono (by decide)) (by rfl) (pa_cons (pv 0) (pa_cons (pv 1) pa_nil))))
     (pss_cons (ps_if (PW.pt (pw_or (pt_not (pt_val (pe_fo Fare_wholes (hr.mono (by decide)) (by rfl) (pa_cons (pv 2) pa_nil)))) (pw_or1 (pt_cmpR (r := rNeD K) (op_neD hr.units) (pe_callB (r := rSortedI K) cr_sortedI (by rfl) T.b_sorted (by decide +kernel) (pa_cons (pv 2) pa_nil)) (pv 1) (nomark _))))) (pss_one (ps_ret pe_bl)) pss_nil)
     (pss_cons (ps_set (i := 3) scis_good_order.nd rfl (.inl rfl) (pe_fo Fcosts_at_first (hr.mono (by decide)) (by rfl) (pa_cons (pv 1) pa_nil)))
     (pss_cons (ps_for PassesOwn.never rfl (pi_listA (K := K) (pv 2)) (pg_name (i := 4) scis_good_order.nd rfl (.inl rfl))
      (pss_cons (ps_if (pt_cmpR op_gt (pe_dget (hu_of hr) (pv 3) (pv 4) (fun _ _ => rfl)) (pe_minVals rfl (by rfl) T.b_min (pv 3)) (nomark _)) (pss_one (ps_ret pe_bl)) pss_nil)
     (pss_one (ps_set (i := 3) scis_good_order.nd rfl (.inl rfl) (pe_fo Fcosts_behind (hr.mono (by decide)) (by rfl) (pa_cons (pv 3) (pa_cons (pv 4) pa_nil)))))))
     (pss_one (ps_ret pe_bl))))))), fun σ Q en q => ?_⟩
  obtain ⟨wd, ps, v⟩ := i
  have hp : wOk wd ∧ Places wd ps ∧ v.length ≤ 30000 := hp
  have hz1 : z0 + (0 : Nat) ≤ 2 ^ 50 := hz
  have n := Nx.refl at0
  obtain ⟨hw, hpl, hl⟩ := hp
  obtain ⟨nd, up⟩ := places_up hpl
  have pl := hpl.2
  refine q_dropS at0 n en (z_need_width (ty_var (x := wd) rfl) hw) (by omega) fun _ z' B' H' _ s n en => ?_
  refine q_dropS at0 n en (z_need_places (ty_var (x := wd) rfl) (ty_var (x := ps) rfl) ⟨hw, hpl⟩) (by omega) fun _ z' B' H' _ s n en => ?_
  refine q_iteS at0 n en (tt_or (tt_notD (tt_B (z_are_wholes (ty_var (x := v) rfl).dat (by show (v.map Dat.int).length ≤ 30000; rw [List.length_map]; exact hl)))) fun hb => (tt_test (ty_neG (ty_sortedI1 (ty_var (x := v) rfl)) (ty_var (x := ps) rfl)))) (by omega) (fun hb z' B' H' s n en => ?_) (fun hb z' B' H' s n en => ?_)
  · have np : ¬ v.Perm ps := fun h => by
      rw [wholes_ints, (sort_is up).mpr h] at hb
      simp at hb
    refine q_ret at0 n en ty_b (by omega) fun x v z' B' H' e n h => q x v z' B' H' ?_ (n.le (by show _ ≤ 0; omega)) h
    exact e.trans (goodL_perm np).symm
  · have pm : v.Perm ps := (sort_is up).mp (by rw [wholes_ints] at hb; simpa using hb)
    have ndv : v.Nodup := pm.nodup_iff.mpr nd
    refine q_asgS at0 n en (i := 3) (z_costs_at_first (ty_var (x := ps) rfl) ⟨nd, pl⟩) (by omega) fun costs z' B' H' σ' e_costs s n en => ?_
    refine q_forLS at0 n en (cb := 0) (ty_var (x := v) rfl) (by omega) (fun k Γ B H => ∃ (kv : DictI) (o4 : Option VP), Γ = [some (Py.is (wd : Int)), some (Py.is (ps : (List Int))), some (Py.is (v : (List Int))), some (Py.is kv), o4] ∧ (∃ kvs, kv = DictI.mk kvs ∧ CostsOk v k kvs ∧ ∀ m, m < k → goodAt v m)) (fun z' B' H' s en => ⟨costs, _, rfl, ⟨_, e_costs, costs_start nd pl pm, fun m h => absurd h (Nat.not_lt_zero _)⟩⟩) (fun _ _ _ _ _ h _ => h) (fun Bs k place Γ' z' B' H' σ' hx inv eb n en => ?_) fun Γ' z' B' H' σ' inv eb2 n en => ?_
    · obtain ⟨kv, o4, rfl, inv⟩ := inv
      obtain ⟨hk, hv⟩ := List.getElem?_eq_some_iff.mp hx
      obtain ⟨kvs, ek, co, gs⟩ := inv
      have kne : kvs ≠ [] := fun e => by
        have := costs_key co (mem_drop_at hk)
        rw [e] at this
        cases this
      refine q_ifS at0 n en (tt_test (ty_B0N (p := fun a b => decide (b < a)) (ty_dget (ty_var (x := kv) rfl) (ty_var (x := place) rfl) (by rw [ek, ← hv]; exact costs_key co (mem_drop_at hk))) (ty_minVals (ty_var (x := kv) rfl) (by rw [ek]; exact kne)))) (by omega) (fun hb2 z' B' H' s n en => ?_) (fun hb2 z' B' H' s n en => ?_)
      · have eb := eb.trans s.up
        obtain ⟨a, m, ea, hm, hlt⟩ := hb2
        have ea : a = valI kv place := ea
        rw [ek, ← hv] at ea
        rw [ek] at hm
        have hlt : m < a := of_decide_eq_true hlt.symm
        have bad := (costs_good hk co hm).2 (ea ▸ hlt) ps
        refine q_ret at0 n en ty_b (by omega) fun x v z' B' H' e n h => q x v z' B' H' ?_ (n.le (by show _ ≤ 0; omega)) h
        exact e.trans bad.symm
      · have eb := eb.trans s.up
        obtain ⟨a, m, ea, hm, hge⟩ := hb2
        have ea : a = valI kv place := ea
        rw [ek, ← hv] at ea
        rw [ek] at hm
        have hge : ¬ m < a := of_decide_eq_false hge.symm
        have gk := (costs_good hk co hm).1 (by rw [← ea]; omega)
        refine q_asg at0 n en (i := 3) (z_costs_behind (ty_var (x := kv) rfl) (ty_var (x := place) rfl) (by rw [ek]; exact co.ok)) (by omega) fun costs2 z' B' H' σ' e_costs2 s n en => ?_
        have eb := eb.trans s.up
        exact ⟨_, z', B', ⟨costs2, _, rfl, ⟨behind kvs v[k], by rw [e_costs2, ek, ← hv], costs_step ndv hk co, good_next gs gk⟩⟩, eb, n.le (by omega), en⟩
    · obtain ⟨kv, o4, rfl, inv⟩ := inv
      refine q_ret at0 n en ty_b (by omega) fun x v z' B' H' e n h => q x v z' B' H' ?_ (n.le (by show _ ≤ 0; omega)) h
      exact e.trans (by obtain ⟨_, _, _, gs⟩ := inv; exact (goodL_yes pm gs).symm)
theorem ok_good_odd {f : Addr} {fd : FuncData} (F : Df K "is_good_order" "is_good_order" sis_good_order [] f fd) (T : TN mg)  (Fneed_width : Fo P w K mg base "need_width" 4 ["width"] cNeedWidth.sp) (Fneed_places : Fo P w K mg base "need_places" 6 ["width", "places"] cNeedPlaces.sp) (Fcosts_at_first : Fo P w K mg base "costs_at_first" 1 ["places"] cCosts0.sp) (Fcosts_behind : Fo P w K mg base "costs_behind" 2 ["costs", "taken"] cBehind.sp) (Fare_wholes : Fo P w K mg base "are_wholes" 2 ["value"] cAreWholes.sp) :
    FnOk P w K mg base CX0 7 f fd ["width", "places", "value"] cGoodB.sp := by
  refine con_go F scis_good_order cGoodB (fun _ => rfl) fun cdv A outer s H E i G z0 B0 hr hp at0 hz => ⟨_, (pss_cons (ps_expr (pe_fo Fneed_width (hr.mono (by decide)) (by rfl) (pa_cons (pv 0) pa_nil)))
     (pss_cons (ps_expr (pe_fo Fneed_places (hr.mono (by decide)) (by rfl) (pa_cons (pv 0) (pa_cons (pv 1) pa_nil))))
     (pss_cons (ps_if (PW.pt (pw_or (pt_not (pt_val (pe_fo Fare_wholes (hr.mono (by decide)) (by rfl) (pa_cons (pv 2) pa_nil)))) (pw_or1 (pt_cmpR (r := rNeD K) (op_neD hr.units) (pe_callB (r := rSortedI K) cr_sortedI (by rfl) T.b_sorted (by decide +kernel) (pa_cons (pv 2) pa_nil)) (pv 1) (nomark _))))) (pss_one (ps_ret pe_bl)) pss_nil)
     pss_never))), fun σ Q en q => ?_⟩
  obtain ⟨wd, ps, d⟩ := i
  have hp : wOk wd ∧ Places wd ps ∧ d.small ∧ wholesB d = false := hp
  have hz1 : z0 + (0 : Nat) ≤ 2 ^ 50 := hz
  have n := Nx.refl at0
  obtain ⟨hw, hpl, hl, hodd⟩ := hp
  refine q_dropS at0 n en (z_need_width (ty_var (x := wd) rfl) hw) (by omega) fun _ z' B' H' _ s n en => ?_
  refine q_dropS at0 n en (z_need_places (ty_var (x := wd) rfl) (ty_var (x := ps) rfl) ⟨hw, hpl⟩) (by omega) fun _ z' B' H' _ s n en => ?_
  refine q_iteS at0 n en (tt_or (c2 := 0) (b := false) (tt_notD (tt_B (z_are_wholes (ty_var (x := d) rfl) hl))) fun hb => absurd hb (by rw [hodd]; decide)) (by omega) (fun hb z' B' H' s n en => ?_) (fun hb z' B' H' s n en => ?_)
  · skip
    refine q_ret at0 n en ty_b (by omega) fun x v z' B' H' e n h => q x v z' B' H' ?_ (n.le (by show _ ≤ 0; omega)) h
    exact e
  · rw [hodd] at hb
    cases hb
end
end K05
set_option maxHeartbeats 4000000
/-! Runs, some being taken: all have the same numbers, all are good. -/
namespace AP
def costsL (left od : List Int) : KC := left.map fun p => (p, twosTo p od)
theorem twos_sum (x : Int) : ∀ l : List Int, (l.map fun a => twos (x - a)).sum = twosTo x l
  | [] => rfl
  | a :: l => by rw [List.map_cons, List.sum_cons, twos_sum x l]; rfl
theorem costs_behind {left od : List Int} (p : Int) : behind (costsL left od) p = costsL (left.filter fun q => decide (q ≠ p)) (od ++ [p]) := by
  unfold behind costsL
  rw [List.filter_map, List.map_map]
  show List.map _ (List.filter (fun q => decide (q ≠ p)) left) = _
  exact List.map_congr_left fun q _ => by
    show (q, twosTo q od + twos (q - p)) = (q, twosTo q (od ++ [p]))
    rw [twosTo_snoc]
theorem costs_fst (left od : List Int) : (costsL left od).map (·.1) = left := by
  unfold costsL
  rw [List.map_map]
  exact List.map_id _
/-- how far any run has come -/
structure RunG (ps od nu left : List Int) : Prop where
  nd : left.Nodup
  sub : ∀ p ∈ left, p ∈ ps
  len : od.length = nu.length
  all : od.length + left.length = ps.length
  go : ∀ l, Gr (costsL left od) l → Gr (zeros ps) (od.zip nu ++ l)
theorem rung_start {ps : List Int} (nd : ps.Nodup) : RunG ps [] [] ps := ⟨nd, fun _ h => h, rfl, by simp, fun l h => h⟩
theorem filter_ne_len {left : List Int} (nd : left.Nodup) {p : Int} (hp : p ∈ left) : (left.filter fun q => decide (q ≠ p)).length + 1 = left.length := filter_one nd hp
theorem rung_step {ps od nu left : List Int} {p c : Int} (r : RunG ps od nu left) (hp : p ∈ left) (hc : c = twosTo p od) (least : ∀ q ∈ left, c ≤ twosTo q od) : RunG ps (od ++ [p]) (nu ++ [c]) (left.filter fun q => decide (q ≠ p)) := by
  refine ⟨r.nd.filter _, fun q hq => r.sub q (List.mem_filter.mp hq).1, by rw [List.length_append, List.length_append, r.len]; rfl, ?_, fun l hl => ?_⟩
  · rw [List.length_append]
    have := filter_ne_len r.nd hp
    have := r.all
    simp only [List.length_singleton]
    omega
  · rw [List.zip_append r.len, List.append_assoc]
    refine r.go _ (Gr.cons (x := (p, c)) (List.mem_map.mpr ⟨p, hp, by rw [hc]⟩) (fun y hy => ?_) ?_)
    · obtain ⟨q, hq, rfl⟩ := List.mem_map.mp hy
      exact least q hq
    · show Gr (behind (costsL left od) p) l
      rw [costs_behind]
      exact hl
theorem rung_gr {ps od nu : List Int} (r : RunG ps od nu []) : Gr (zeros ps) (od.zip nu) := by
  have := r.go [] Gr.nil
  rwa [List.append_nil] at this
theorem zip_fst {od nu : List Int} (h : od.length = nu.length) : (od.zip nu).map (·.1) = od := List.map_fst_zip (by omega)
theorem zip_snd {od nu : List Int} (h : od.length = nu.length) : (od.zip nu).map (·.2) = nu := List.map_snd_zip (by omega)
theorem rung_nums {w : Nat} {ps od nu : List Int} (nd : ps.Nodup) (hw : Within w ps) (r : RunG ps od nu []) : nu = numbersOf ps := by
  have := gr_num w nd hw (rung_gr r)
  rw [zip_snd r.len] at this
  rw [numbers_num nd hw, this]
theorem rung_perm {ps od nu : List Int} (nd : ps.Nodup) (r : RunG ps od nu []) : od.Perm ps := by
  have := (rung_gr r).keys (by rw [zeros_keys]; exact nd)
  rwa [zip_fst r.len, zeros_keys] at this
theorem gr_costs : ∀ {l : KC} {left od : List Int}, left.Nodup → Gr (costsL left od) l → ∀ m, m < l.length → ∀ p ∈ (l.map (·.1)).drop m, twosTo ((l.map (·.1)).getD m 0) (od ++ (l.map (·.1)).take m) ≤ twosTo p (od ++ (l.map (·.1)).take m)
  | [], _, _, _, _, m, hm => absurd hm (Nat.not_lt_zero _)
  | x :: l, left, od, nd, h, m, hm => by
    have keys := h.keys (by rw [costs_fst]; exact nd)
    rw [costs_fst] at keys
    generalize hk : costsL left od = kvs at h
    cases h with
    | cons hx least tail =>
      subst hk
      obtain ⟨q, hq, e⟩ := List.mem_map.mp hx
      have ex : x = (q, twosTo q od) := e.symm
      cases m with
      | zero =>
        intro p hp
        rw [List.take_zero, List.append_nil]
        show twosTo x.1 od ≤ _
        have hp : p ∈ (x :: l).map (·.1) := hp
        have := least (p, twosTo p od) (List.mem_map.mpr ⟨p, keys.mem_iff.mp hp, rfl⟩)
        rw [ex] at this ⊢
        exact this
      | succ m =>
        intro p hp
        rw [costs_behind] at tail
        have := gr_costs (nd.filter _) tail m (Nat.lt_of_succ_lt_succ hm) p hp
        rw [List.append_assoc] at this
        exact this
theorem gr_good {ps : List Int} {l : KC} (nd : ps.Nodup) (h : Gr (zeros ps) l) : goodL ps (l.map (·.1)) = true := by
  have keys := h.keys (by rw [zeros_keys]; exact nd)
  rw [zeros_keys] at keys
  refine goodL_yes keys fun m hm p hp => ?_
  have := gr_costs (left := ps) (od := []) nd h m (by rw [List.length_map] at hm; exact hm) p hp
  exact this
theorem rung_good {ps od nu : List Int} (nd : ps.Nodup) (r : RunG ps od nu []) : goodL ps od = true := by
  have := gr_good nd (rung_gr r)
  rwa [zip_fst r.len] at this
/-- how far the first run has come -/
structure RunF (ps od nu left : List Int) : Prop where
  nd : left.Nodup
  sub : ∀ p ∈ left, p ∈ ps
  len : od.length = nu.length
  all : od.length + left.length = ps.length
  go : od.zip nu ++ orun left.length (costsL left od) = run0 ps
theorem runf_start {ps : List Int} (nd : ps.Nodup) : RunF ps [] [] ps := ⟨nd, fun _ h => h, rfl, by simp, rfl⟩
theorem costs_len (left od : List Int) : (costsL left od).length = left.length := List.length_map ..
theorem runf_pick {ps od nu left : List Int} (r : RunF ps od nu left) (ne : left ≠ []) : ∃ p, p ∈ left ∧ (∀ q ∈ left, twosTo p od ≤ twosTo q od) ∧ (left.filter fun q => decide (twosTo q od = twosTo p od))[0]? = some p ∧
    RunF ps (od ++ [p]) (nu ++ [twosTo p od]) (left.filter fun q => decide (q ≠ p)) := by
  have cne : costsL left od ≠ [] := fun e => ne (List.map_eq_nil_iff.mp e)
  obtain ⟨x, hx, xm, least, first⟩ := pick_some cne
  obtain ⟨p, hp, e⟩ := List.mem_map.mp xm
  subst e
  have l2 : ∀ q ∈ left, twosTo p od ≤ twosTo q od := fun q hq => least (q, twosTo q od) (List.mem_map.mpr ⟨q, hq, rfl⟩)
  refine ⟨p, hp, l2, ?_, ⟨r.nd.filter _, fun q hq => r.sub q (List.mem_filter.mp hq).1, by rw [List.length_append, List.length_append, r.len]; rfl, ?_, ?_⟩⟩
  · have h := first
    unfold costsL at h
    rw [List.filter_map, List.map_map] at h
    rw [← h]
    exact congrArg (fun l : List Int => l[0]?) (List.map_id _).symm
  · rw [List.length_append]
    have := filter_ne_len r.nd hp
    have := r.all
    simp only [List.length_singleton]
    omega
  · rw [List.zip_append r.len, List.append_assoc, ← r.go]
    have h := orun_cons (kvs := costsL left od) (by rw [costs_fst]; exact r.nd) hx xm
    rw [costs_len] at h
    rw [h]
    show _ ++ ((p, twosTo p od) :: orun _ _) = _ ++ ((p, twosTo p od) :: orun _ _)
    rw [costs_behind, costs_len]
theorem runf_end {ps od nu left : List Int} (r : RunF ps od nu left) (h : od.length = ps.length) : od = orderOf ps ∧ nu = numbersOf ps := by
  have l0 : left = [] := List.length_eq_zero_iff.mp (by have := r.all; omega)
  have g := r.go
  rw [l0] at g
  have g : od.zip nu ++ [] = run0 ps := g
  rw [List.append_nil] at g
  unfold orderOf numbersOf
  rw [← g, zip_fst r.len, zip_snd r.len]
  exact ⟨rfl, rfl⟩
end AP
set_option maxHeartbeats 4000000
namespace K05
open PySem PySem.Spec PyProof.Rows L2 AP Evl
theorem diff_66 {x a : Int} (hx : x.natAbs < 2 ^ 65) (ha : a.natAbs < 2 ^ 65) : (x - a).natAbs < 2 ^ 200 := by
  have h : (x - a).natAbs ≤ x.natAbs + a.natAbs := Int.natAbs_sub_le x a
  have e : (2 : Nat) ^ 66 = 2 * 2 ^ 65 := by decide
  have l : (2 : Nat) ^ 66 ≤ 2 ^ 200 := Nat.pow_le_pow_right (by decide) (by decide)
  omega
theorem least_is {f : Int → Int} {p : Int} {lf : List Int} (hp : p ∈ lf) (h : ∀ q ∈ lf, f p ≤ f q) : minI (lf.map f) = f p := by
  have ne : lf.map f ≠ [] := fun e => by rw [List.map_eq_nil_iff.mp e] at hp; cases hp
  obtain ⟨a, b⟩ := minI_ok ne
  obtain ⟨q, hq, e⟩ := List.mem_map.mp a
  have := b (f p) (List.mem_map.mpr ⟨p, hp, rfl⟩)
  have := h q hq
  omega
theorem pos_get {l : List Int} {p : Int} (h : l[0]? = some p) : 0 < l.length := (List.getElem?_eq_some_iff.mp h).1
theorem first_get {l : List Int} {p : Int} (h : l[0]? = some p) : (l.map fun x => x).getD 0 0 = p := by
  rw [List.map_id', List.getD_eq_getElem?_getD, h]; rfl
theorem filt_ne {l : List Int} {p : Int} : ((l.filter fun x => !decide (x = p)).map fun x => x) = l.filter fun q => decide (q ≠ p) := by
  rw [List.map_id']
  exact List.filter_congr fun x _ => by simp
theorem all_snoc5 {P : Int → Prop} {l : List Int} {a : Int} (h : ∀ x ∈ l, P x) (ha : P a) : ∀ x ∈ l ++ [a], P x := fun x hx => by
  rcases List.mem_append.mp hx with q | q
  · exact h x q
  · rw [List.mem_singleton.mp q]; exact ha
theorem least_any {f : Int → Int} {lf : List Int} {m : Int} (ne : lf ≠ []) (e : m = minI (lf.map f)) : (∀ q ∈ lf, m ≤ f q) ∧ ∃ q, q ∈ lf ∧ f q = m := by
  obtain ⟨a, b⟩ := minI_ok (show lf.map f ≠ [] from fun z => ne (List.map_eq_nil_iff.mp z))
  rw [← e] at a b
  obtain ⟨q, hq, z⟩ := List.mem_map.mp a
  exact ⟨fun q hq => b _ (List.mem_map.mpr ⟨q, hq, rfl⟩), q, hq, z⟩
section
variable {f : Int → Int} {lf s : List Int} {m : Int} (e : s = ((lf.filter fun q => decide (f q = m)).map fun q => q))
theorem some_all (e : s = ((lf.filter fun q => decide (f q = m)).map fun q => q)) : ∀ q ∈ s, q ∈ lf ∧ f q = m := fun q hq => by
  rw [e, List.map_id'] at hq
  obtain ⟨a, b⟩ := List.mem_filter.mp hq
  exact ⟨a, of_decide_eq_true b⟩
theorem some_pos (e : s = ((lf.filter fun q => decide (f q = m)).map fun q => q)) {q : Int} (hq : q ∈ lf) (h : f q = m) : 0 < s.length := by
  rw [e, List.map_id']
  exact List.length_pos_of_mem (List.mem_filter.mpr ⟨hq, decide_eq_true h⟩)
theorem some_len (e : s = ((lf.filter fun q => decide (f q = m)).map fun q => q)) : s.length ≤ lf.length := by
  rw [e, List.map_id']
  exact List.length_filter_le ..
theorem ix_any (so : ∀ q ∈ s, q ∈ lf ∧ f q = m) {xs : List Int} {i : Int} (hi : 0 ≤ i ∧ i < xs.length) (ex : xs = s) : ∃ x, atI xs i = some x ∧ (x ∈ lf ∧ f x = m) := by
  have hl : i.toNat < xs.length := by omega
  refine ⟨_, atI_in hi.1 hi.2, so _ ?_⟩
  rw [← ex, List.getD_eq_getElem?_getD, List.getElem?_eq_getElem hl]
  exact List.getElem_mem hl
end
theorem last_get {l : List Int} {y : Int} : (l ++ [y]).getD ((l ++ [y]).length - 1) 0 = y := by
  rw [List.getD_eq_getElem?_getD]
  simp
theorem rung_done {ps od nu left : List Int} (r : RunG ps od nu left) (h : od.length = ps.length) : RunG ps od nu [] := by
  have l0 : left = [] := List.length_eq_zero_iff.mp (by have := r.all; omega)
  rwa [l0] at r
section
variable {G : Option Addr} {c0 c1 c2 c3 c4 c5 c6 c7 : Nat} {t0 t1 t2 t3 t4 t5 t6 t7 : TE} {Γ : AP.Ctx} {g : Addr}
theorem z__law_random {b : Int} {E : XK} (h0 : AP.Ty (some g) c0 t0 Γ (· = GenR.mk g)) (h1 : AP.Ty (some g) c1 t1 Γ (· = b)) (hpre : 0 < b ∧ b.natAbs < 2 ^ 8999) : AP.Ty (some g) ((c0 + (c1 + 0)) + 300) (tCall cRandom.sp [] E (tCons t0 (tCons t1 tNil))) Γ (fun r : Int => 0 ≤ r ∧ r < b) := ty_call (C := cRandom) (g, b) (ta_cons h0 (ta_cons h1 ta_nil)) ⟨rfl, hpre⟩
theorem z__law_twos {m : Int} {E : XK} (h0 : AP.Ty G c0 t0 Γ (· = m)) (hpre : m.natAbs < 2 ^ 200) : AP.Ty G ((c0 + 0) + 0) (tCall cTwosL.sp [] E (tCons t0 tNil)) Γ (· = twos m) := ty_call (C := cTwosL) m (ta_cons h0 ta_nil) hpre
theorem z__law_drawn {wd : Int} {m : Int} {E : XK} (h0 : AP.Ty (some g) c0 t0 Γ (· = GenR.mk g)) (h1 : AP.Ty (some g) c1 t1 Γ (· = wd)) (h2 : AP.Ty (some g) c2 t2 Γ (· = m)) (hpre : wOk wd ∧ 1 ≤ m ∧ m ≤ 100) : AP.Ty (some g) ((c0 + (c1 + (c2 + 0))) + 50000) (tCall cDrawn.sp [] E (tCons t0 (tCons t1 (tCons t2 tNil)))) Γ (fun r : (List Int) => AscN wd m r) := ty_call (C := cDrawn) (g, wd, m) (ta_cons h0 (ta_cons h1 (ta_cons h2 ta_nil))) ⟨rfl, hpre⟩
def cBetw5 : AP.Con ((List Int) × Int) Int := ⟨fun i => [Py.is i.1, Py.is i.2], fun i G => i.1.length ≤ 1000 ∧ ∀ a ∈ i.1, (i.2 - a).natAbs < 2 ^ 200, fun _ => 0, fun i r => r = twosTo i.2 i.1⟩
theorem z__law_between {row : (List Int)} {pl : Int} {E : XK} (h0 : AP.Ty G c0 t0 Γ (· = row)) (h1 : AP.Ty G c1 t1 Γ (· = pl)) (hpre : row.length ≤ 1000 ∧ ∀ a ∈ row, (pl - a).natAbs < 2 ^ 200) : AP.Ty G ((c0 + (c1 + 0)) + 0) (tCall cBetw5.sp [] E (tCons t0 (tCons t1 tNil))) Γ (· = twosTo pl row) := ty_call (C := cBetw5) (row, pl) (ta_cons h0 (ta_cons h1 ta_nil)) hpre
def cGood5 : AP.Con (List Int) ((List Int) × (List Int)) := ⟨fun i => [Py.is i], fun i G => i.Nodup ∧ i.length ≤ 100 ∧ (∀ a ∈ i, a.natAbs < 2 ^ 65), fun _ => 0, fun i r => r = (orderOf i, numbersOf i)⟩
theorem z__law_good {ps : (List Int)} {E : XK} (h0 : AP.Ty G c0 t0 Γ (· = ps)) (hpre : ps.Nodup ∧ ps.length ≤ 100 ∧ (∀ a ∈ ps, a.natAbs < 2 ^ 65)) : AP.Ty G ((c0 + 0) + 0) (tCall cGood5.sp [] E (tCons t0 tNil)) Γ (· = (orderOf ps, numbersOf ps)) := ty_call (C := cGood5) ps (ta_cons h0 ta_nil) hpre
def cAny5 : AP.Con (Addr × (List Int)) ((List Int) × (List Int)) := ⟨fun i => [Py.is (GenR.mk i.1), Py.is i.2], fun i G => G = some i.1 ∧ (i.2.Nodup ∧ i.2.length ≤ 100 ∧ (∀ a ∈ i.2, a.natAbs < 2 ^ 65)), fun _ => 40000, fun i r => RunG i.2 r.1 r.2 []⟩
theorem z__law_any {ps : (List Int)} {E : XK} (h0 : AP.Ty (some g) c0 t0 Γ (· = GenR.mk g)) (h1 : AP.Ty (some g) c1 t1 Γ (· = ps)) (hpre : ps.Nodup ∧ ps.length ≤ 100 ∧ (∀ a ∈ ps, a.natAbs < 2 ^ 65)) : AP.Ty (some g) ((c0 + (c1 + 0)) + 40000) (tCall cAny5.sp [] E (tCons t0 (tCons t1 tNil))) Γ (fun r : ((List Int) × (List Int)) => RunG ps r.1 r.2 []) := ty_call (C := cAny5) (g, ps) (ta_cons h0 (ta_cons h1 ta_nil)) ⟨rfl, hpre⟩
end
section
variable {P : Program} {w : World} {K : PySem.W.Frag} {mg : Str → Option Value} {base : Heap}
abbrev s_law_places : Stmt := topS 30
theorem sc_law_places : FnScope ["_law_generator_here", "_law_width", "_law_size", "_law_most", "_law_found", "_law_turn", "_law_place", "_law_step"] ["_law_generator_here", "_law_width", "_law_size"] (defScope s_law_places) := ⟨rfl, rfl, rfl, by decide +kernel, rfl, by decide +kernel, by decide +kernel⟩
theorem ok_law_places {f : Addr} {fd : FuncData} (F : Df K "_law_places" "_law_places" s_law_places [] f fd) (T : TN mg)  (F_law_random : Fo P w K mg base "_law_random" 2 ["_law_generator_here", "_law_limit"] cRandom.sp) (F_law_double : Fo P w K mg base "_law_double" 1 ["_law_many"] cDouble.sp) :
    FnOk P w K mg base CX0 3 f fd ["_law_generator_here", "_law_width", "_law_size"] cDPlaces.sp := by
  refine con_go F sc_law_places cDPlaces (fun _ => rfl) fun cdv A outer s H E i G z0 B0 hr hp at0 hz => ⟨_, (pss_cons (ps_par (i := 3) (j := 4) rfl sc_law_places.nd rfl rfl (by decide) rfl rfl (pa_cons (pe_ifExp (pt_cmpR op_eq (pv 1) pe_int (nomark _)) (pe_op op_powW pe_int pe_int) (pe_fo F_law_double (hr.mono (by decide)) (by rfl) (pa_cons (pv 1) pa_nil))) (pa_cons (pe_lst pa_nil) pa_nil)) (by rfl))
     (pss_cons (ps_for PassesOwn.never rfl (pi_range1 (by rfl) T.b_range (pa_cons (pv 2) pa_nil)) (pg_name (i := 5) sc_law_places.nd rfl (.inl rfl))
      (pss_cons (ps_set (i := 6) sc_law_places.nd rfl (.inl rfl) (pe_fo F_law_random (hr.mono (by decide)) (by rfl) (pa_cons (pv 0) (pa_cons (pv 3) pa_nil))))
       (pss_cons (ps_for PassesOwn.never rfl (pi_range1 (by rfl) T.b_range (pa_cons (pv 2) pa_nil)) (pg_name (i := 7) sc_law_places.nd rfl (.inl rfl))
        (pss_one (ps_set (i := 6) sc_law_places.nd rfl (.inl rfl) (pe_ifExp (pt_cmpR (r := rIn K true) op_notIn_seq (pv 6) (pv 4) (by rfl)) (pv 6) (pe_op op_mod (pe_callTy (r := rInt1) call_int1 (by rfl) T.b_int (by decide +kernel) (pa_cons (pe_op op_add (pv 6) pe_int) pa_nil)) (pv 3))))))
       (pss_one (ps_expr (pe_bm PySem.F.plainAttrs_list PySem.F.slot_list_append PySem.F.type_list_append mt_append (pv 4) (pa_cons (pv 6) pa_nil)))))))
     (pss_one (ps_ret (pe_callB (r := rSortedI K) cr_sortedI (by rfl) T.b_sorted (by decide +kernel) (pa_cons (pv 4) pa_nil)))))), fun σ Q en q => ?_⟩
  have n0 := Nx.refl at0
  obtain ⟨g, wd, sz⟩ := i
  obtain ⟨eG, hw, hm1, hm2, hm3⟩ := hp
  subst eG
  have hw : 1 ≤ wd ∧ wd ≤ 64 := hw
  have hm1 : 1 ≤ sz := hm1
  have hm2 : sz ≤ 100 := hm2
  have hm3 : sz ≤ 2 ^ wd.toNat := hm3
  have hz1 : z0 + 40000 ≤ 2 ^ 50 := hz
  obtain ⟨tp, tp2⟩ := two_pow wd (by omega) (by omega)
  refine q_parNewS at0 n0 en (A := (· = (2 : Int) ^ wd.toNat)) (ty_if (c2 := 0) (tt_test (ty_eqI (ty_var (x := wd) rfl) ty_i)) (fun hb => (ty_I (C := PowOk) (f := fun a b => a ^ b.toNat) ty_i ty_i ⟨by decide, by decide +kernel⟩).to (by rw [of_decide_eq_true hb])) (fun hb => y_double (ty_var (x := wd) rfl) ⟨by omega, by omega⟩)) (by omega) fun most l z' B' H' σ' em hl' n en nl nl0 => ?_
  subst em
  have gl := at0.ne nl0
  refine q_forS at0 n en (cb := 300) (ti_rng1 (ta_cons (ty_var (x := sz) rfl) ta_nil) ⟨by omega, by omega⟩) (by omega)
    (fun i Γ B H => ∃ (found : List Int) (o5 o6 o7 : Option VP), Γ = [some (Py.is (GenR.mk g)), some (Py.is wd), some (Py.is sz), some (Py.is ((2 : Int) ^ wd.toNat)), some (RefP l), o5, o6, o7] ∧
      found.Nodup ∧ (∀ p ∈ found, 0 ≤ p ∧ p < 2 ^ wd.toNat) ∧ found.length = i ∧ H l = some (.lst (found.map V.int)) ∧ B l = none)
    (fun z' B' H' nx _ => ⟨[], none, none, none, rfl, List.nodup_nil, by simp, rfl, (nx.keepL gl upd_same nl).1, (nx.keepL gl upd_same nl).2⟩)
    (fun _ _ _ _ _ ⟨found, o5, o6, o7, h1, h2, h3, h4, h5, h6⟩ ex => ⟨found, o5, o6, o7, h1, h2, h3, h4, ex _ _ h5, h6⟩) (fun m em Bs i Γ' z' B' H' σ' hi inv eb n en => ?_) fun m em Γ' z' B' H' σ' inv n en => ?_
  · obtain ⟨found, o5, o6, o7, rfl, nd, bd, len, hl, nl⟩ := inv
    have hi : i < sz.toNat := em ▸ hi
    refine q_asgS at0 n en (i := 6) (y_random (ty_var rfl) (ty_var (x := (2 : Int) ^ wd.toNat) rfl) (small_b tp tp2)) (by omega) fun p z1 B1 H1 σ1 hp s1 n en => ?_
    obtain ⟨hl1, nl1⟩ := s1.keepL gl hl nl
    have fr := n.freeze at0 hl1 nl1 nl0
    have at1 := fr.1.at_
    have hz2 : z1 + 0 ≤ 2 ^ 50 := by have := n.hi; omega
    have en1 := (en.up fr.2).renew (k := 4) rfl (Py.stays (LAt.mk l found)) ⟨rfl, upd_same⟩
    refine q_forS at1 (Nx.refl at1) en1 (cb := 0) (ti_rng1 (ta_cons (ty_var (x := sz) rfl) ta_nil) ⟨by omega, by omega⟩) hz2
      (fun j Γ _ _ => ∃ (u : Int) (o7 : Option VP), Γ = [some (Py.is (GenR.mk g)), some (Py.is wd), some (Py.is sz), some (Py.is ((2 : Int) ^ wd.toNat)), some (Py.is (LAt.mk l found)), some (Py.is (i : Int)), some (Py.is u), o7] ∧ (0 ≤ u ∧ u < 2 ^ wd.toNat) ∧
        (u ∉ found ∨ (u = (p + (j : Int)) % 2 ^ wd.toNat ∧ ∀ t, t < j → (p + (t : Int)) % 2 ^ wd.toNat ∈ found)))
      (fun _ _ _ _ _ => ⟨p, _, rfl, hp, .inr ⟨by rw [Int.natCast_zero, Int.add_zero, Int.emod_eq_of_lt hp.1 hp.2], fun t ht => absurd ht (Nat.not_lt_zero _)⟩⟩) (fun _ _ _ _ _ h _ => h) (fun m em Bs j Γ' z' B' H' σ' hj inv eb n en => ?_) fun m em Γ' z2 B2 H2 σ2 inv n2 en => ?_
    · obtain ⟨u, o7, rfl, hu, alt⟩ := inv
      refine q_asg at1 n en (i := 6) (A := (· = if u ∈ found then (u + 1) % 2 ^ wd.toNat else u)) (ty_if (c2 := 0) (tt_test (ty_notIn (ty_var (x := u) rfl) (ty_var (x := LAt.mk l found) rfl).lat)) (fun h => (ty_var (x := u) rfl).to (by rw [if_neg (by simpa using h)])) (fun h => (ty_I (C := fun _ j => 0 < j) (f := fun a b => a % b) (ty_int (ty_I0 (f := fun a b => a + b) (ty_var (x := u) rfl) ty_i)) (ty_var (x := (2 : Int) ^ wd.toNat) rfl) tp).to (by rw [if_pos (by simpa using h)]))) (by simpa using hz2) fun x z' B' H' σ' ex s' n en =>
        ⟨_, z', B', ⟨x, _, rfl, ?_, ?_⟩, eb.trans s'.up, n.le (by simp), en⟩
      · subst ex
        by_cases h : u ∈ found
        · rw [if_pos h]; exact ⟨Int.emod_nonneg _ (by omega), Int.emod_lt_of_pos _ tp⟩
        · rw [if_neg h]; exact hu
      · subst ex
        by_cases h : u ∈ found
        · rw [if_pos h]
          rcases alt with a | ⟨a, b⟩
          · exact absurd h a
          · refine .inr ⟨?_, fun t ht => ?_⟩
            · rw [a, Int.emod_add_emod, Int.natCast_add, Int.add_assoc] <;> rfl
            · by_cases e : t = j
              · subst e
                rw [← a]
                exact h
              · exact b t (by omega)
        · rw [if_neg h]
          exact .inl h
    · obtain ⟨u, o7, rfl, hu, alt⟩ := inv
      have free : u ∉ found := by
        rcases alt with a | ⟨a, b⟩
        · exact a
        · exact (free_place (n := sz.toNat) (by omega) (by omega) fun j hj => b j (by omega)).elim
      have nO := n.outside at0 hl1 nl1 nl0 n2
      have hl2 := n2.keep l _ gl hl1
      have enO := en.sink (B := B1) (Γ2 := [some (Py.is (GenR.mk g)), some (Py.is wd), some (Py.is sz), some (Py.is ((2 : Int) ^ wd.toNat)), some (RefP l), none, some (Py.is u), none]) rfl fun k P2 e => by
        rcases k with _ | _ | _ | _ | _ | _ | _ | _ | k
        · cases e; exact ⟨_, rfl, Py.stays _, fun v h => h⟩
        · cases e; exact ⟨_, rfl, Py.stays _, fun v h => h⟩
        · cases e; exact ⟨_, rfl, Py.stays _, fun v h => h⟩
        · cases e; exact ⟨_, rfl, Py.stays _, fun v h => h⟩
        · cases e; exact ⟨_, rfl, RefP.stays, fun v h => h.1⟩
        · cases e
        · cases e; exact ⟨_, rfl, Py.stays _, fun v h => h⟩
        · cases e
        · cases e
      refine q_app at0 nO enO (k := 4) rfl hl2 nl1 nl0 (by rw [List.length_map]; omega) (ty_var (x := u) rfl) (by omega) fun x v z3 B3 H3 ex hv up n en hl3 nl3 => ⟨_, z3, B3, ⟨found ++ [u], _, _, _, rfl, ?_, ?_, ?_, ?_, nl3⟩, (eb.trans s1.up).trans up, n.le (by simp; omega), en⟩
      · exact List.nodup_append.mpr ⟨nd, by simp, fun a ha b hb => by rw [List.mem_singleton.mp hb]; exact fun e => free (e ▸ ha)⟩
      · intro p hp
        rcases List.mem_append.mp hp with hp | hp
        · exact bd p hp
        · rw [List.mem_singleton.mp hp]; exact hu
      · rw [List.length_append, len] <;> rfl
      · rw [show x = u from ex] at hv
        cases (show v = .int u from hv)
        rw [hl3, List.map_append] <;> rfl
  · obtain ⟨found, o5, o6, o7, rfl, nd, bd, len, hl, nl⟩ := inv
    have em : m = sz.toNat := em
    have fr := n.freeze at0 hl nl nl0
    have en := (en.up fr.2).renew (k := 4) rfl (Py.stays found) (Py.of_ints upd_same)
    refine q_ret at0 fr.1 en (ty_sortedN (ty_var (x := found) rfl)) (by simp; omega) fun ps v z' B' H' hl n h => q ps v z' B' H' ?_ (n.le (by simp; show _ ≤ 40000; omega)) h
    obtain ⟨ns, rfl, pm, so⟩ := hl
    exact sorted_asc pm so nd (by omega) (by show _ ≤ sz; omega) bd
abbrev s_law_double : Stmt := topS 31
theorem sc_law_double : FnScope ["_law_many", "_law_found", "_law_turn"] ["_law_many"] (defScope s_law_double) := ⟨rfl, rfl, rfl, by decide +kernel, rfl, by decide +kernel, by decide +kernel⟩
theorem ok_law_double {f : Addr} {fd : FuncData} (F : Df K "_law_double" "_law_double" s_law_double [] f fd) (T : TN mg)   :
    FnOk P w K mg base CX0 1 f fd ["_law_many"] cDouble.sp := by
  refine con_go F sc_law_double cDouble (fun _ => rfl) fun cdv A outer s H E i G z0 B0 hr hp at0 hz => ⟨_, (pss_cons (ps_set (i := 1) sc_law_double.nd rfl (.inl rfl) pe_int)
     (pss_cons (ps_for PassesOwn.never rfl (pi_range1 (by rfl) T.b_range (pa_cons (pv 0) pa_nil)) (pg_name (i := 2) sc_law_double.nd rfl (.inl rfl))
      (pss_one (ps_set (i := 1) sc_law_double.nd rfl (.inl rfl) (pe_op op_mulW (pv 1) pe_int))))
     (pss_one (ps_ret (pv 1))))), fun σ Q en q => ?_⟩
  have n0 := Nx.refl at0
  have hm : 0 ≤ i ∧ i ≤ 200 := hp
  have hz1 : z0 + 0 ≤ 2 ^ 50 := hz
  refine q_asgS at0 n0 en (i := 1) ty_i hz fun x z' B' H' σ' ex _ n en => ?_
  subst ex
  refine q_forS at0 n en (cb := 0) (ti_rng1 (ta_cons (ty_var (x := i) rfl) ta_nil) ⟨by omega, by omega⟩) hz
    (fun k Γ _ _ => ∃ o, Γ = [some (Py.is i), some (Py.is ((2 : Int) ^ k)), o]) (fun _ _ _ _ _ => ⟨none, by rw [Int.pow_zero] <;> rfl⟩) (fun _ _ _ _ _ h _ => h) (fun m em Bs k Γ' z' B' H' σ' hi inv eb n en => ?_) fun m em Γ' z' B' H' σ' inv n en => ?_
  · obtain ⟨o, rfl⟩ := inv
    have hi : k < i.toNat := em ▸ hi
    exact q_asg at0 n en (i := 1) (ty_I (C := CMulW) (f := fun a b => a * b) (ty_var (x := (2 : Int) ^ k) rfl) ty_i (mul_pow (by decide) (by omega))) (by simpa using hz1) fun x z' B' H' σ' ex s' n en =>
      ⟨_, z', B', ⟨_, by subst ex; rw [Int.pow_succ] <;> rfl⟩, eb.trans s'.up, n.le (by simp), en⟩
  · obtain ⟨o, rfl⟩ := inv
    subst em
    exact q_ret at0 n en (ty_var rfl) (by simpa using hz1) fun x v z' B' H' e n h => q x v z' B' H' e (n.le (by simp)) h
abbrev s_law_near : Stmt := topS 32
theorem sc_law_near : FnScope ["_law_generator_here", "_law_width", "_law_size", "_law_step", "_law_start", "_law_found", "_law_turn", "_law_at", "_law_place"] ["_law_generator_here", "_law_width", "_law_size"] (defScope s_law_near) := ⟨rfl, rfl, rfl, by decide +kernel, rfl, by decide +kernel, by decide +kernel⟩
theorem ok_law_near {f : Addr} {fd : FuncData} (F : Df K "_law_near" "_law_near" s_law_near [] f fd) (T : TN mg)  (F_law_random : Fo P w K mg base "_law_random" 2 ["_law_generator_here", "_law_limit"] cRandom.sp) (F_law_double : Fo P w K mg base "_law_double" 1 ["_law_many"] cDouble.sp) :
    FnOk P w K mg base CX0 3 f fd ["_law_generator_here", "_law_width", "_law_size"] cNear.sp := by
  refine con_go F sc_law_near cNear (fun _ => rfl) fun cdv A outer s H E i G z0 B0 hr hp at0 hz => ⟨_, (pss_cons (ps_set (i := 3) sc_law_near.nd rfl (.inl rfl) (pe_fo F_law_double (hr.mono (by decide)) (by rfl) (pa_cons (pe_fo F_law_random (hr.mono (by decide)) (by rfl) (pa_cons (pv 0) (pa_cons (pe_callB (r := rMax2) (call_max2 rfl) (by rfl) T.b_max (by decide +kernel) (pa_cons (pe_op op_sub (pv 1) pe_int) (pa_cons pe_int pa_nil))) pa_nil))) pa_nil)))
     (pss_cons (ps_asg (pe_tup (pa_cons (pe_fo F_law_random (hr.mono (by decide)) (by rfl) (pa_cons (pv 0) (pa_cons pe_int pa_nil))) (pa_cons (pe_lst pa_nil) pa_nil))) (pg_tup rfl (pgs_cons (pg_name (i := 4) sc_law_near.nd rfl (.inl rfl)) (pgs_cons (pg_name (i := 5) sc_law_near.nd rfl (.inr rfl)) pgs_nil))))
     (pss_cons (ps_for PassesOwn.never rfl (pi_range1 (by rfl) T.b_range (pa_cons (pv 2) pa_nil)) (pg_name (i := 6) sc_law_near.nd rfl (.inl rfl))
      (pss_one (ps_expr (pe_bm PySem.F.plainAttrs_list PySem.F.slot_list_append PySem.F.type_list_append mt_append (pv 5) (pa_cons (pe_op op_mod (pe_callTy (r := rInt1) call_int1 (by rfl) T.b_int (by decide +kernel) (pa_cons (pe_op op_add (pe_op op_add (pv 4) (pe_op op_mulW (pv 3) (pv 6))) (pe_ix (r := rIxL K) ix_list (pe_lst (pa_cons pe_int (pa_cons pe_int (pa_cons pe_int pa_nil)))) (pe_fo F_law_random (hr.mono (by decide)) (by rfl) (pa_cons (pv 0) (pa_cons pe_int pa_nil))) (fun _ _ => rfl))) pa_nil)) (pe_fo F_law_double (hr.mono (by decide)) (by rfl) (pa_cons (pv 1) pa_nil))) pa_nil)))))
     (pss_one (ps_ret (pe_callB (r := rSortedI K) cr_sortedI (by rfl) T.b_sorted (by decide +kernel) (pa_cons (pe_lc (own := [("_law_at", 7), ("_law_place", 8)]) (g := gTup K 2 (gCons (gName 7) (gCons (gName 8) gNil))) rfl sc_law_near.nd (pi_enum (by rfl) T.b_enumerate (pa_cons (pv 5) pa_nil)) (blkOk_by (own := [("_law_at", 7), ("_law_place", 8)]) (N := ["_law_generator_here", "_law_width", "_law_size", "_law_step", "_law_start", "_law_found", "_law_turn", "_law_at", "_law_place"]) (sc := defScope s_law_near) (by decide +kernel)) (fun _ _ _ _ _ => (pg_tup rfl (pgs_cons (pg_name (i := 7) sc_law_near.nd rfl (Or.inl rfl)) (pgs_cons (pg_name (i := 8) sc_law_near.nd rfl (Or.inl rfl)) pgs_nil)))) (fun _ _ _ _ _ => (pts_one (pt_cmpR (r := rIn K true) op_notIn_seq (pv 8) (pe_slice (r := rSlL K) sl_list (pv 5) po_none (po_some (pv 7))) (by rfl)))) (fun _ _ _ _ _ => (pv 8))) pa_nil))))))), fun σ Q en q => ?_⟩
  have n0 := Nx.refl at0
  obtain ⟨g, wd, sz⟩ := i
  obtain ⟨eG, hw, hm1, hm2⟩ := hp
  subst eG
  have hw : 1 ≤ wd ∧ wd ≤ 64 := hw
  have hm1 : 1 ≤ sz := hm1
  have hm2 : sz ≤ 100 := hm2
  have hz1 : z0 + 40000 ≤ 2 ^ 50 := hz
  obtain ⟨tp, tp2⟩ := two_pow wd (by omega) (by omega)
  refine q_asgS at0 n0 en (i := 3) (y_doubleN (y_random (ty_var rfl) (ty_max2 (ty_I0 (f := fun a b => a - b) (ty_var (x := wd) rfl) ty_i) ty_i) (small_b (by split <;> omega) (Int.le_trans (b := 64) (by split <;> omega) (by decide)))) fun m hm => ⟨hm.1, by have := hm.2; split at this <;> omega⟩) (by omega) fun step z' B' H' σ' hstep _ n en => ?_
  refine q_parTNewS at0 n en (y_random (ty_var rfl) ty_i (small_b (by decide) (by decide))) (by omega) fun start l z' B' H' σ' hstart hl n en nl nl0 => ?_
  have gl := at0.ne nl0
  have bstep : step.natAbs < 2 ^ 201 := by
    obtain ⟨m, hm, e⟩ := hstep
    have h1 : m ≤ 200 := by have := hm.2; split at this <;> omega
    have := two_pow m hm.1 h1
    have e2 : ((2 : Int) ^ 200) = ((2 ^ 200 : Nat) : Int) := by norm_cast
    have : step.natAbs ≤ 2 ^ 200 := by omega
    exact Nat.lt_of_le_of_lt this (by decide)
  refine q_forS at0 n en (cb := 300) (ti_rng1 (ta_cons (ty_var (x := sz) rfl) ta_nil) ⟨by omega, by omega⟩) (by omega)
    (fun i Γ B H => ∃ (found : List Int) (o6 o7 o8 : Option VP), Γ = [some (Py.is (GenR.mk g)), some (Py.is wd), some (Py.is sz), some (Py.is step), some (Py.is start), some (RefP l), o6, o7, o8] ∧
      (∀ p ∈ found, 0 ≤ p ∧ p < 2 ^ wd.toNat) ∧ found.length = i ∧ H l = some (.lst (found.map V.int)) ∧ B l = none)
    (fun z' B' H' nx _ => ⟨[], none, none, none, rfl, by simp, rfl, (nx.keepL gl hl nl).1, (nx.keepL gl hl nl).2⟩)
    (fun _ _ _ _ _ ⟨found, o6, o7, o8, h1, h3, h4, h5, h6⟩ ex => ⟨found, o6, o7, o8, h1, h3, h4, ex _ _ h5, h6⟩) (fun m em Bs i Γ' z' B' H' σ' hi inv eb n en => ?_) fun m em Γ' z' B' H' σ' inv n en => ?_
  · obtain ⟨found, o6, o7, o8, rfl, bd, len, hl, nl⟩ := inv
    have hi : i < sz.toNat := em ▸ hi
    refine q_app at0 n en (k := 5) rfl hl nl nl0 (by rw [List.length_map]; omega) (ty_IN (C := fun _ j => 0 < j) (f := fun a b => a % b) (A := fun _ => True) (A' := (· = (2 : Int) ^ wd.toNat))
      ((ty_int (ty_I0N (f := fun a b => a + b) (ty_I0 (f := fun a b => a + b) (ty_var (x := start) rfl) (ty_I (C := CMulW) (f := fun a b => a * b) (ty_var (x := step) rfl) (ty_var (x := (i : Int)) rfl) (wide_mul (b := 200) bstep (by omega) (by decide) (by decide) (by decide))))
        (ty_ixN (A2 := fun _ : Int => True) (ty_lit (tl_cons ty_i (tl_cons ty_i (tl_cons ty_i tl_nil))) (by simp)) (y_random (ty_var rfl) ty_i (small_b (by decide) (by decide))) fun xs j ex hj => ?_))).imp fun _ _ => trivial)
      (y_double (ty_var (x := wd) rfl) ⟨by omega, by omega⟩) fun i j _ e => by rw [e]; exact tp) (by omega) fun x v z3 B3 H3 ex hv up n en hl3 nl3 => ⟨_, z3, B3, ⟨found ++ [x], _, _, _, rfl, ?_, ?_, ?_, nl3⟩, eb.trans up, n.le (by simp; omega), en⟩
    · subst ex
      have : j = 0 ∨ j = 1 ∨ j = 2 := by omega
      rcases this with rfl | rfl | rfl <;> exact ⟨_, rfl, trivial⟩
    · intro p hp
      rcases List.mem_append.mp hp with hp | hp
      · exact bd p hp
      · rw [List.mem_singleton.mp hp]
        obtain ⟨a, b, _, e1, e2⟩ := ex
        rw [e2, e1]
        exact ⟨Int.emod_nonneg _ (by omega), Int.emod_lt_of_pos _ tp⟩
    · rw [List.length_append, len] <;> rfl
    · cases (show v = .int x from hv)
      rw [hl3, List.map_append] <;> rfl
  · obtain ⟨found, o6, o7, o8, rfl, bd, len, hl, nl⟩ := inv
    have em : m = sz.toNat := em
    have fr := n.freeze at0 hl nl nl0
    have en := (en.up fr.2).renew (k := 5) rfl (Py.stays found) (Py.of_ints upd_same)
    have gd : ∀ k, k < found.length → found[k]? = some (found.getD k 0) := fun k hk => by
      rw [List.getD_eq_getElem?_getD, List.getElem?_eq_getElem hk] <;> rfl
    refine q_ret at0 fr.1 en (ty_sortedN (ty_lc (M := 100) (ct := 0) (cb := 0) (T := fun k b => b = freshB found k) (A := fun k y => y = found.getD k 0) (ti_enum (ta_cons (ty_var (x := found) rfl) ta_nil)) (fun m e => by omega) (by decide) (by simp) (fun m e k hk => ?_) fun m e k hk _ => ?_)) (by simp; omega) fun ps v z' B' H' hl n h => q ps v z' B' H' ?_ (n.le (by simp; show _ ≤ 40000; omega)) h
    · subst e
      show TyT (some g) 0 _ (((wipeC _ _).set 7 (some (Py.is (k : Int)))).set 8 (some (itm found k))) _
      rw [itm_eq (gd k hk)]
      exact (tt_test (ty_notIn (ty_var (x := found.getD k 0) rfl) (ty_sl (ty_var (x := found) rfl) to_none (to_some (ty_var (x := (k : Int)) rfl))))).to (by rw [cutL_upto (by omega), Int.toNat_natCast] <;> rfl)
    · subst e
      show AP.Ty (some g) 0 _ (((wipeC _ _).set 7 (some (Py.is (k : Int)))).set 8 (some (itm found k))) _
      rw [itm_eq (gd k hk)]
      exact ty_var rfl
    · obtain ⟨ns, ⟨m, em', sel⟩, pm, so⟩ := hl
      have e := sel_det _ _ (fun _ _ q => q) (fun _ _ q => q) sel
      subst em'
      have e : ns = fresh found found.length := e
      obtain ⟨h1, h2, h3, h4⟩ := fresh_ok found _ (Nat.le_refl _)
      rw [← e] at h1 h2 h3 h4
      exact sorted_asc pm so h1 (h3 (by omega)) (by show _ ≤ sz; omega) fun p hp => bd p (List.mem_of_mem_take (h2 p hp))
abbrev s_law_drawn : Stmt := topS 33
theorem sc_law_drawn : FnScope ["_law_generator_here", "_law_width", "_law_most", "_law_size"] ["_law_generator_here", "_law_width", "_law_most"] (defScope s_law_drawn) := ⟨rfl, rfl, rfl, by decide +kernel, rfl, by decide +kernel, by decide +kernel⟩
theorem ok_law_drawn {f : Addr} {fd : FuncData} (F : Df K "_law_drawn" "_law_drawn" s_law_drawn [] f fd) (T : TN mg)  (F_law_random : Fo P w K mg base "_law_random" 2 ["_law_generator_here", "_law_limit"] cRandom.sp) (F_law_double : Fo P w K mg base "_law_double" 1 ["_law_many"] cDouble.sp) (F_law_near : Fo P w K mg base "_law_near" 3 ["_law_generator_here", "_law_width", "_law_size"] cNear.sp) (F_law_places : Fo P w K mg base "_law_places" 3 ["_law_generator_here", "_law_width", "_law_size"] cDPlaces.sp) :
    FnOk P w K mg base CX0 4 f fd ["_law_generator_here", "_law_width", "_law_most"] cDrawn.sp := by
  refine con_go F sc_law_drawn cDrawn (fun _ => rfl) fun cdv A outer s H E i G z0 B0 hr hp at0 hz => ⟨_, (pss_cons (ps_set (i := 3) sc_law_drawn.nd rfl (.inl rfl) (pe_op op_add pe_int (pe_fo F_law_random (hr.mono (by decide)) (by rfl) (pa_cons (pv 0) (pa_cons (pe_callB (r := rMin2) (call_min2 rfl) (by rfl) T.b_min (by decide +kernel) (pa_cons (pv 2) (pa_cons (pe_fo F_law_double (hr.mono (by decide)) (by rfl) (pa_cons (pv 1) pa_nil)) pa_nil))) pa_nil)))))
     (pss_cons (ps_if (pt_cmpR op_eq (pe_fo F_law_random (hr.mono (by decide)) (by rfl) (pa_cons (pv 0) (pa_cons pe_int pa_nil))) pe_int (nomark _)) (pss_one (ps_ret (pe_fo F_law_near (hr.mono (by decide)) (by rfl) (pa_cons (pv 0) (pa_cons (pv 1) (pa_cons (pv 3) pa_nil)))))) pss_nil)
     (pss_one (ps_ret (pe_fo F_law_places (hr.mono (by decide)) (by rfl) (pa_cons (pv 0) (pa_cons (pv 1) (pa_cons (pv 3) pa_nil)))))))), fun σ Q en q => ?_⟩
  have n0 := Nx.refl at0
  obtain ⟨g, wd, most⟩ := i
  obtain ⟨eG, hw, hm1, hm2⟩ := hp
  subst eG
  have hw : 1 ≤ wd ∧ wd ≤ 64 := hw
  have hm1 : 1 ≤ most := hm1
  have hm2 : most ≤ 100 := hm2
  have hz1 : z0 + 50000 ≤ 2 ^ 50 := hz
  obtain ⟨tp, tp2⟩ := two_pow wd (by omega) (by omega)
  refine q_asgS at0 n0 en (i := 3) (ty_I0N (f := fun a b => a + b) ty_i (y_random (ty_var rfl) (ty_min2 (ty_var (x := most) rfl) (y_double (ty_var (x := wd) rfl) ⟨by omega, by omega⟩)) (small_b (by split <;> omega) (Int.le_trans (b := 100) (by split <;> omega) (by decide))))) (by omega) fun sz z' B' H' σ' hs _ n en => ?_
  obtain ⟨a, b, ea, hb, es⟩ := hs
  have es : sz = a + b := es
  have hb : 0 ≤ b ∧ b < if (2 : Int) ^ wd.toNat < most then 2 ^ wd.toNat else most := hb
  have s1 : 1 ≤ sz ∧ sz ≤ most ∧ sz ≤ 2 ^ wd.toNat := by
    obtain ⟨hb0, hb1⟩ := hb
    split at hb1 <;> omega
  have up : ∀ ps, AscN wd sz ps → AscN wd most ps := fun ps h => ⟨h.1, Int.le_trans h.2.1 s1.2.1, h.2.2⟩
  refine q_ifS at0 n en ((tt_test (ty_eqIN (y_random (ty_var rfl) ty_i (small_b (by decide) (by decide))) ty_i)).imp fun _ _ => trivial) (by omega) (fun _ z' B' H' _ n en => ?_) (fun _ z' B' H' _ n en => ?_)
  · exact q_ret at0 n en (y_near (ty_var rfl) (ty_var (x := wd) rfl) (ty_var (x := sz) rfl) ⟨hw, s1.1, by omega⟩) (by omega) fun x v z' B' H' e n h => q x v z' B' H' (up x e) (n.le (by show _ ≤ 50000; omega)) h
  · exact q_ret at0 n en (y_dplaces (ty_var rfl) (ty_var (x := wd) rfl) (ty_var (x := sz) rfl) ⟨hw, s1.1, by omega, s1.2.2⟩) (by omega) fun x v z' B' H' e n h => q x v z' B' H' (up x e) (n.le (by show _ ≤ 50000; omega)) h
abbrev s_law_twos : Stmt := topS 34
theorem sc_law_twos : FnScope ["_law_number", "_law_found"] ["_law_number"] (defScope s_law_twos) := ⟨rfl, rfl, rfl, by decide +kernel, rfl, by decide +kernel, by decide +kernel⟩
theorem ok_law_twos {f : Addr} {fd : FuncData} (F : Df K "_law_twos" "_law_twos" s_law_twos [] f fd) (T : TN mg)   :
    FnOk P w K mg base CX0 1 f fd ["_law_number"] cTwosL.sp := by
  refine con_go F sc_law_twos cTwosL (fun _ => rfl) fun cdv A outer s H E i G z0 B0 hr hp at0 hz => ⟨_, (pss_cons (ps_set (i := 1) sc_law_twos.nd rfl (.inl rfl) pe_int)
     (pss_cons (ps_while PassesOwn.never (PW.pt (pw_and (pt_cmpR op_ne (pv 0) pe_int (nomark _)) (pw_and1 (pt_cmpR op_eq (pe_op op_mod (pe_callTy (r := rInt1) call_int1 (by rfl) T.b_int (by decide +kernel) (pa_cons (pv 0) pa_nil)) pe_int) pe_int (nomark _)))))
      (pss_one (ps_par (i := 0) (j := 1) rfl sc_law_twos.nd rfl rfl (by decide) rfl rfl (pa_cons (pe_op op_fdivW (pv 0) pe_int) (pa_cons (pe_op op_add (pv 1) pe_int) pa_nil)) (by rfl))))
     (pss_one (ps_ret (pv 1))))), fun σ Q en q => ?_⟩
  have n0 := Nx.refl at0
  have hi : i.natAbs < 2 ^ 200 := hp
  have hz1 : z0 + 0 ≤ 2 ^ 50 := hz
  refine q_asgS at0 n0 en (i := 1) ty_i hz fun x z' B' H' σ' ex _ n en => ?_
  subst ex
  refine q_whileS at0 n en hz1 (fun m Γ => ∃ n f : Int, Γ = [some (Py.is n), some (Py.is f)] ∧ m = n.natAbs ∧ f + twos n = twos i) i.natAbs ⟨i, 0, rfl, rfl, by omega⟩ fun m Γ' inv => ?_
  obtain ⟨n, f, rfl, rfl, hf⟩ := inv
  refine ⟨_, tt_and (c2 := 0) (tt_test (ty_neI (ty_var (x := n) rfl) ty_i)) fun _ => tt_test (ty_eqI (ty_I (C := fun _ j => 0 < j) (f := fun a b => a % b) (ty_int (ty_var (x := n) rfl)) ty_i (by decide)) ty_i), fun hb z' B' H' σ' nx en => ?_, fun hb z' B' H' σ' nx en => ?_⟩
  · have hb : n ≠ 0 ∧ n % 2 = 0 := by simpa using hb
    refine q_parE at0 nx en (ty_I (C := CDivW) (f := fun a b => a / b) (ty_var (x := n) rfl) ty_i ⟨by decide, by decide⟩) (ty_I0 (f := fun a b => a + b) (ty_var (x := f) rfl) ty_i) (by simpa using hz1) fun x y z' B' H' σ' ex ey _ nx en => ⟨_, _, z', B', ?_, ⟨x, y, rfl, rfl, ?_⟩, nx.le (by simp), en⟩
    · rw [ex]; omega
    · have := twos_even hb.1 hb.2
      have ex : x = n / 2 := ex
      have ey : y = f + 1 := ey
      rw [ex, ey]
      omega
  · have hb : n ≠ 0 → ¬ n % 2 = 0 := by simpa using hb
    have : twos n = 0 := by
      by_cases h : n = 0
      · rw [h]; exact twos_zero
      · exact twos_odd (by have := hb h; omega)
    exact q_ret at0 nx en ((ty_var (x := f) rfl).to (by omega)) (by simpa using hz1) fun x v z' B' H' e n h => q x v z' B' H' e (n.le (by simp)) h
abbrev s_law_between : Stmt := topS 35
theorem sc_law_between : FnScope ["_law_row", "_law_place", "_law_other"] ["_law_row", "_law_place"] (defScope s_law_between) := ⟨rfl, rfl, rfl, by decide +kernel, rfl, by decide +kernel, by decide +kernel⟩
theorem ok_law_between {f : Addr} {fd : FuncData} (F : Df K "_law_between" "_law_between" s_law_between [] f fd) (T : TN mg)  (F_law_twos : Fo P w K mg base "_law_twos" 1 ["_law_number"] cTwosL.sp) :
    FnOk P w K mg base CX0 2 f fd ["_law_row", "_law_place"] cBetw5.sp := by
  refine con_go F sc_law_between cBetw5 (fun _ => rfl) fun cdv A outer s H E i G z0 B0 hr hp at0 hz => ⟨_, (pss_one (ps_ret (pe_callB (r := rSum K) (cr_sum rfl) (by rfl) T.b_sum (by decide +kernel) (pa_cons (pe_lc (own := [("_law_other", 2)]) rfl sc_law_between.nd (pi_listA (K := K) (pv 0)) (blkOk_by (own := [("_law_other", 2)]) (N := ["_law_row", "_law_place", "_law_other"]) (sc := defScope s_law_between) (by decide +kernel)) (fun _ _ _ _ _ => (pg_name (i := 2) sc_law_between.nd rfl (Or.inl rfl))) (fun _ _ _ _ _ => pts_nil) (fun _ _ _ _ _ => (pe_fo F_law_twos (hr.mono (by decide)) (by rfl) (pa_cons (pe_op op_sub (pv 1) (pv 2)) pa_nil)))) pa_nil)))), fun σ Q en q => ?_⟩
  obtain ⟨row, pl⟩ := i
  have hp : row.length ≤ 1000 ∧ ∀ a ∈ row, (pl - a).natAbs < 2 ^ 200 := hp
  have hz1 : z0 + (0 : Nat) ≤ 2 ^ 50 := hz
  have n := Nx.refl at0
  obtain ⟨hl, hs⟩ := hp
  refine q_ret at0 n en (ty_sum (ty_lcM (f := (fun other : Int => twos ((pl - other)))) (ty_var (x := row) rfl) (by omega) (by simp) fun other h_other => (z__law_twos (ty_I0 (f := fun a b => a - b) (ty_var (x := pl) rfl) (ty_var (x := other) rfl)) (hs _ h_other)))) (by omega) fun x v z' B' H' e n h => q x v z' B' H' ?_ (n.le (by show _ ≤ 0; omega)) h
  exact e.trans (twos_sum pl row)
abbrev s_law_good : Stmt := topS 36
theorem sc_law_good : FnScope ["_law_places_here", "_law_order", "_law_numbers", "_law_left", "_law_turn", "_law_place", "_law_least", "_law_other"] ["_law_places_here"] (defScope s_law_good) := ⟨rfl, rfl, rfl, by decide +kernel, rfl, by decide +kernel, by decide +kernel⟩
theorem ok_law_good {f : Addr} {fd : FuncData} (F : Df K "_law_good" "_law_good" s_law_good [] f fd) (T : TN mg)  (F_law_between : Fo P w K mg base "_law_between" 2 ["_law_row", "_law_place"] cBetw5.sp) :
    FnOk P w K mg base CX0 3 f fd ["_law_places_here"] cGood5.sp := by
  refine con_go F sc_law_good cGood5 (fun _ => rfl) fun cdv A outer s H E i G z0 B0 hr hp at0 hz => ⟨_, (pss_cons (ps_asg (pe_tup (pa_cons (pe_lst pa_nil) (pa_cons (pe_lst pa_nil) (pa_cons (pe_callTy (r := rListS K) call_list_of (by rfl) T.b_list (by decide +kernel) (pa_cons (pv 0) pa_nil)) pa_nil)))) (pg_tup rfl (pgs_cons (pg_name (i := 1) sc_law_good.nd rfl (.inr rfl)) (pgs_cons (pg_name (i := 2) sc_law_good.nd rfl (.inl rfl)) (pgs_cons (pg_name (i := 3) sc_law_good.nd rfl (.inl rfl)) pgs_nil)))))
     (pss_cons (ps_for PassesOwn.never rfl (pi_range1 (by rfl) T.b_range (pa_cons (pe_callB (r := rLenS K) call_len_seq (by rfl) T.b_len (by decide +kernel) (pa_cons (pv 0) pa_nil)) pa_nil)) (pg_name (i := 4) sc_law_good.nd rfl (.inl rfl))
      (pss_cons (ps_set (i := 6) sc_law_good.nd rfl (.inr rfl) (pe_callB (r := rMin K) (cr_min rfl) (by rfl) T.b_min (by decide +kernel) (pa_cons (pe_lc (own := [("_law_place", 5)]) rfl sc_law_good.nd (pi_listA (K := K) (pv 3)) (blkOk_by (own := [("_law_place", 5)]) (N := ["_law_places_here", "_law_order", "_law_numbers", "_law_left", "_law_turn", "_law_place", "_law_least", "_law_other"]) (sc := defScope s_law_good) (by decide +kernel)) (fun _ _ _ _ _ => (pg_name (i := 5) sc_law_good.nd rfl (Or.inl rfl))) (fun _ _ _ _ _ => pts_nil) (fun _ _ _ _ _ => (pe_fo F_law_between (hr.mono (by decide)) (by rfl) (pa_cons (pv 1) (pa_cons (pv 5) pa_nil))))) pa_nil)))
     (pss_cons (ps_set (i := 5) sc_law_good.nd rfl (.inr rfl) (pe_ix (r := rIxL K) ix_list (pe_lc (own := [("_law_place", 5)]) rfl sc_law_good.nd (pi_listA (K := K) (pv 3)) (blkOk_by (own := [("_law_place", 5)]) (N := ["_law_places_here", "_law_order", "_law_numbers", "_law_left", "_law_turn", "_law_place", "_law_least", "_law_other"]) (sc := defScope s_law_good) (by decide +kernel)) (fun _ _ _ _ _ => (pg_name (i := 5) sc_law_good.nd rfl (Or.inl rfl))) (fun _ _ _ _ _ => (pts_one (pt_cmpR op_eq (pe_fo F_law_between (hr.mono (by decide)) (by rfl) (pa_cons (pv 1) (pa_cons (pv 5) pa_nil))) (pv 6) (nomark _)))) (fun _ _ _ _ _ => (pv 5))) pe_int (fun _ _ => rfl)))
     (pss_cons (ps_expr (pe_bm PySem.F.plainAttrs_list PySem.F.slot_list_append PySem.F.type_list_append mt_append (pv 1) (pa_cons (pv 5) pa_nil)))
     (pss_cons (ps_expr (pe_bm PySem.F.plainAttrs_list PySem.F.slot_list_append PySem.F.type_list_append mt_append (pv 2) (pa_cons (pv 6) pa_nil)))
     (pss_one (ps_setLc (i := 3) (own := [("_law_other", 7)]) rfl sc_law_good.nd rfl rfl (sw_true rfl rfl rfl (by decide +kernel)) (pi_listA (K := K) (pv 3)) (blkOk_by (own := [("_law_other", 7)]) (N := ["_law_places_here", "_law_order", "_law_numbers", "_law_left", "_law_turn", "_law_place", "_law_least", "_law_other"]) (sc := defScope s_law_good) (by decide +kernel)) (fun _ _ _ _ _ => (pg_name (i := 7) sc_law_good.nd rfl (Or.inl rfl))) (fun _ _ _ _ _ => (pts_one (pt_cmpR op_ne (pv 7) (pv 5) (nomark _)))) (fun _ _ _ _ _ => (pv 7)))))))))
     (pss_one (ps_ret (pe_tup (pa_cons (pv 1) (pa_cons (pv 2) pa_nil))))))), fun σ Q en q => ?_⟩
  obtain ⟨ps, rfl⟩ : ∃ a, a = i := ⟨_, rfl⟩
  have hp : ps.Nodup ∧ ps.length ≤ 100 ∧ (∀ a ∈ ps, a.natAbs < 2 ^ 65) := hp
  have hz1 : z0 + (0 : Nat) ≤ 2 ^ 50 := hz
  have n := Nx.refl at0
  obtain ⟨nd, h100, sm⟩ := hp
  refine q_parT3LLX (i := 1) (j := 2) (k := 3) at0 n en tn_nil tn_nil (ty_listOf (ty_var (x := ps) rfl)) (by omega) fun order numbers left l_order l_numbers z' B' H' σ' e_order e_numbers e_left l_order_numbers g_order g_numbers s n en => ?_
  have hl_order := g_order.hl
  have nl_order := g_order.nl
  have n0_order := g_order.n0
  have gl_order := at0.ne n0_order
  have hl_numbers := g_numbers.hl
  have nl_numbers := g_numbers.nl
  have n0_numbers := g_numbers.n0
  have gl_numbers := at0.ne n0_numbers
  have l_numbers_order := l_order_numbers.symm
  replace e_order := e_order.symm
  subst e_order
  have ea_order := Each.of_ints (B := B') ([] : List Int)
  replace e_numbers := e_numbers.symm
  subst e_numbers
  have ea_numbers := Each.of_ints (B := B') ([] : List Int)
  replace e_left := e_left.symm
  subst e_left
  refine q_for1S at0 n en (cb := 0) (ty_len (ty_var (x := ps) rfl)) ⟨by omega, by omega⟩ (by omega) (fun k Γ B H => ∃ (lf : (List Int)) (xs_order : List Int) (us_order : List V) (xs_numbers : List Int) (us_numbers : List V) (o4 o5 o6 o7 : Option VP), Γ = [some (Py.is (ps : (List Int))), some (RefP l_order), some (RefP l_numbers), some (Py.is lf), o4, o5, o6, o7] ∧ (Each B (xs_order) (us_order) ∧ H l_order = some (.lst (us_order)) ∧ B l_order = none) ∧ (Each B (xs_numbers) (us_numbers) ∧ H l_numbers = some (.lst (us_numbers)) ∧ B l_numbers = none) ∧ (RunF ps xs_order xs_numbers lf ∧ xs_order.length = k ∧ ∀ a ∈ xs_order, a ∈ ps)) (fun z' B' H' s en => ⟨ps, ([] : List Int), (([] : List Int).map V.int), ([] : List Int), (([] : List Int).map V.int), _, _, _, _, rfl, ⟨ea_order.ex s.up, (s.keepL gl_order hl_order nl_order).1, (s.keepL gl_order hl_order nl_order).2⟩, ⟨ea_numbers.ex s.up, (s.keepL gl_numbers hl_numbers nl_numbers).1, (s.keepL gl_numbers hl_numbers nl_numbers).2⟩, ⟨runf_start nd, rfl, fun a h => nomatch h⟩⟩) (fun _ _ _ _ _ ⟨x0, x1, x2, x3, x4, x5, x6, x7, x8, e, ⟨a0, b0, c0⟩, ⟨a1, b1, c1⟩, inv⟩ ex => ⟨x0, x1, x2, x3, x4, x5, x6, x7, x8, e, ⟨a0, ex _ _ b0, c0⟩, ⟨a1, ex _ _ b1, c1⟩, inv⟩) (fun Bs k  Γ' z' B' H' σ' hk inv eb n en => ?_) fun Γ' z' B' H' σ' inv eb2 n en => ?_
  · obtain ⟨lf, xs_order, us_order, xs_numbers, us_numbers, o4, o5, o6, o7, rfl, ⟨ea_order, hl_order, nl_order⟩, ⟨ea_numbers, hl_numbers, nl_numbers⟩, inv⟩ := inv
    obtain ⟨r, ko, osub⟩ := inv
    have ra := r.all
    have rl := r.len
    have lne : lf ≠ [] := fun e => by rw [e, List.length_nil] at ra; omega
    have lpos := List.length_pos_iff.mpr lne
    obtain ⟨p, hp, hl, hf, r2⟩ := runf_pick r lne
    obtain ⟨Bs1, rfl⟩ : ∃ b, b = B' := ⟨_, rfl⟩
    have ns1 := n
    have ebo1 := eb
    have eb : Ex Bs1 Bs1 := Ex.refl _
    have en := en.ageR (.cons (ps : (List Int)) (.ref l_order (.ref l_numbers (.cons (lf : (List Int)) (.cons ((k : Int) : Int) (.skip (.skip (.skip .nil))))))))
    have nl1_order := nl_order
    replace hl_order := hl_order.trans (congrArg (fun u => some (HO.lst u)) ea_order.ints)
    have nl1_numbers := nl_numbers
    replace hl_numbers := hl_numbers.trans (congrArg (fun u => some (HO.lst u)) ea_numbers.ints)
    have nl_numbers : upd _ l_order (HO.lst (List.map V.int xs_order)) l_numbers = none := (upd_ne l_numbers_order).trans nl_numbers
    have fr_order := n.freeze at0 hl_order nl_order n0_order
    have eb := eb.trans fr_order.2
    replace en := (en.up fr_order.2).renew (k := 1) rfl (Py.stays (LAt.mk l_order (xs_order : List Int))) ⟨rfl, upd_same⟩
    replace n := fr_order.1
    have fr_numbers := n.freeze at0 hl_numbers nl_numbers n0_numbers
    have eb := eb.trans fr_numbers.2
    replace en := (en.up fr_numbers.2).renew (k := 2) rfl (Py.stays (LAt.mk l_numbers (xs_numbers : List Int))) ⟨rfl, upd_same⟩
    replace n := fr_numbers.1
    refine q_asgS at0 n en (i := 6) (ty_minD (ty_lcM (f := (fun place : Int => twosTo place xs_order)) (ty_var (x := (OldV.mk (lf : (List Int)) : OldV Bs1 (List Int))) rfl).old (by omega) (by simp) fun place h_place => (z__law_between (ty_var (x := LAt.mk l_order (xs_order : List Int)) rfl).lat (ty_var (x := place) rfl) ⟨by have := r.len; have := r.all; omega, fun a ha => diff_66 (sm _ (r.sub _ h_place)) (sm _ (osub a ha))⟩)) (by simpa using lne)) (by omega) fun least z' B' H' σ' e_least s n en => ?_
    have eb := eb.trans s.up
    have el : least = twosTo p xs_order := e_least.trans (least_is hp hl)
    have fpos : 0 < (lf.filter fun q => decide (twosTo q xs_order = least)).length := by rw [el]; exact pos_get hf
    refine q_asgS at0 n en (i := 5) ((ty_ixD 0 (ty_lcL (p := fun place2 : Int => decide (twosTo place2 xs_order = least)) (f := (fun place2 : Int => place2)) (ty_var (x := (OldV.mk (lf : (List Int)) : OldV Bs1 (List Int))) rfl).old (by omega) (by simp) (fun place2 h_place2 => (tt_test (ty_eqI (z__law_between (ty_var (x := LAt.mk l_order (xs_order : List Int)) rfl).lat (ty_var (x := place2) rfl) ⟨by have := r.len; have := r.all; omega, fun a ha => diff_66 (sm _ (r.sub _ h_place2)) (sm _ (osub a ha))⟩) (ty_var (x := least) rfl)))) fun place2 h_place2 hp_place2 => (ty_var (x := place2) rfl)) ty_i ⟨by decide, by rw [List.length_map]; omega⟩).to (y := (((lf.filter fun place2 : Int => decide (twosTo place2 xs_order = least)).map (fun place2 : Int => place2))).getD 0 0) rfl) (by omega) fun place3 z' B' H' σ' e_place3 s n en => ?_
    have eb := eb.trans s.up
    have ep : place3 = p := by rw [e_place3, el]; exact first_get hf
    have bl_numbers := en.lat (k := 2) (l := l_numbers) (xs := xs_numbers) rfl
    have hl_numbers := n.at_.ex _ _ bl_numbers
    have gl_numbers := at0.ne n0_numbers
    have ea_numbers := Each.of_ints (B := Bs1) xs_numbers
    have nl_numbers := nl1_numbers
    have bl_order := en.lat (k := 1) (l := l_order) (xs := xs_order) rfl
    have hl_order := n.at_.ex _ _ bl_order
    have gl_order := at0.ne n0_order
    have ea_order := Each.of_ints (B := Bs1) xs_order
    have nl_order := nl1_order
    have en := en.young (.old (ps : (List Int)) (.lat (.lat (.old (lf : (List Int)) (.old ((k : Int) : Int) (.flat (flat_int place3) (.flat (flat_int least) (.skip .nil))))))))
    have n := Nx.back ns1 n eb
    have eb := ebo1
    refine q_appS at0 n en (k := 1) rfl hl_order nl_order n0_order (by rw [ea_order.len]; omega) (ty_var (x := place3) rfl) (by omega) fun y v_order_y z' B' H' e_y hv_order up n en hl_order nl_order keep new => ?_
    have eb := eb.trans up
    have ea_order := (ea_order.ex up).snoc hv_order
    have ea_numbers := ea_numbers.ex up
    have nl_numbers := keep2 nl_numbers hl_numbers new
    have hl_numbers := keep _ _ gl_numbers l_numbers_order hl_numbers
    replace e_y := e_y.symm
    subst e_y
    refine q_appS at0 n en (k := 2) rfl hl_numbers nl_numbers n0_numbers (by rw [ea_numbers.len]; omega) (ty_var (x := least) rfl) (by omega) fun y2 v_numbers_y2 z' B' H' e_y2 hv_numbers up n en hl_numbers nl_numbers keep new => ?_
    have eb := eb.trans up
    have ea_numbers := (ea_numbers.ex up).snoc hv_numbers
    have ea_order := ea_order.ex up
    have nl_order := keep2 nl_order hl_order new
    have hl_order := keep _ _ gl_order l_order_numbers hl_order
    replace e_y2 := e_y2.symm
    subst e_y2
    refine q_asg at0 n en (i := 3) (ty_lcL (p := fun other : Int => (!decide (other = place3))) (f := (fun other : Int => other)) (ty_var (x := lf) rfl) (by omega) (by simp) (fun other h_other => (tt_test (ty_neI (ty_var (x := other) rfl) (ty_var (x := place3) rfl)))) fun other h_other hp_other => (ty_var (x := other) rfl)) (by omega) fun left2 z' B' H' σ' e_left2 s n en => ?_
    have eb := eb.trans s.up
    have ea_numbers := ea_numbers.ex s.up
    obtain ⟨hl_numbers, nl_numbers⟩ := s.keepL gl_numbers hl_numbers nl_numbers
    have ea_order := ea_order.ex s.up
    obtain ⟨hl_order, nl_order⟩ := s.keepL gl_order hl_order nl_order
    exact ⟨_, z', _, ⟨left2, (xs_order ++ [place3]), ((xs_order.map V.int) ++ [v_order_y]), (xs_numbers ++ [least]), ((xs_numbers.map V.int) ++ [v_numbers_y2]), _, _, _, _, rfl, ⟨ea_order, hl_order, nl_order⟩, ⟨ea_numbers, hl_numbers, nl_numbers⟩, ⟨by rw [e_left2, ep, el, filt_ne]; exact r2, by rw [List.length_append, ko]; rfl, all_snoc5 osub (ep ▸ r.sub p hp)⟩⟩, eb, n.le (by omega), en⟩
  · obtain ⟨lf, xs_order, us_order, xs_numbers, us_numbers, o4, o5, o6, o7, rfl, ⟨ea_order, hl_order, nl_order⟩, ⟨ea_numbers, hl_numbers, nl_numbers⟩, inv⟩ := inv
    have nl_order : upd _ l_numbers (HO.lst (us_numbers)) l_order = none := (upd_ne l_order_numbers).trans nl_order
    have fr_numbers := n.freeze at0 hl_numbers nl_numbers n0_numbers
    have ea_order := ea_order.ex fr_numbers.2
    replace en := (en.up fr_numbers.2).renew (k := 2) rfl (Py.stays xs_numbers) ⟨l_numbers, us_numbers, rfl, upd_same, ea_numbers.ex fr_numbers.2⟩
    replace n := fr_numbers.1
    have fr_order := n.freeze at0 hl_order nl_order n0_order
    replace en := (en.up fr_order.2).renew (k := 1) rfl (Py.stays xs_order) ⟨l_order, us_order, rfl, upd_same, ea_order.ex fr_order.2⟩
    replace n := fr_order.1
    refine q_ret at0 n en (ty_tup2 (ty_var (x := xs_order) rfl) (ty_var (x := xs_numbers) rfl)) (by omega) fun x v z' B' H' e n h => q x v z' B' H' ?_ (n.le (by show _ ≤ 0; omega)) h
    exact e.trans (by obtain ⟨r, ko, _⟩ := inv; obtain ⟨a, b⟩ := runf_end r (by rw [ko]; simp); rw [← a, ← b])
abbrev s_law_any : Stmt := topS 37
theorem sc_law_any : FnScope ["_law_generator_here", "_law_places_here", "_law_left", "_law_order", "_law_numbers", "_law_turn", "_law_least", "_law_some", "_law_place"] ["_law_generator_here", "_law_places_here"] (defScope s_law_any) := ⟨rfl, rfl, rfl, by decide +kernel, rfl, by decide +kernel, by decide +kernel⟩
theorem ok_law_any {f : Addr} {fd : FuncData} (F : Df K "_law_any" "_law_any" s_law_any [] f fd) (T : TN mg)  (F_law_between : Fo P w K mg base "_law_between" 2 ["_law_row", "_law_place"] cBetw5.sp) (F_law_random : Fo P w K mg base "_law_random" 2 ["_law_generator_here", "_law_limit"] cRandom.sp) :
    FnOk P w K mg base CX0 3 f fd ["_law_generator_here", "_law_places_here"] cAny5.sp := by
  refine con_go F sc_law_any cAny5 (fun _ => rfl) fun cdv A outer s H E i G z0 B0 hr hp at0 hz => ⟨_, (pss_cons (ps_asg (pe_tup (pa_cons (pe_callTy (r := rListS K) call_list_of (by rfl) T.b_list (by decide +kernel) (pa_cons (pv 1) pa_nil)) (pa_cons (pe_lst pa_nil) (pa_cons (pe_lst pa_nil) pa_nil)))) (pg_tup rfl (pgs_cons (pg_name (i := 2) sc_law_any.nd rfl (.inl rfl)) (pgs_cons (pg_name (i := 3) sc_law_any.nd rfl (.inr rfl)) (pgs_cons (pg_name (i := 4) sc_law_any.nd rfl (.inl rfl)) pgs_nil)))))
     (pss_cons (ps_for PassesOwn.never rfl (pi_range1 (by rfl) T.b_range (pa_cons (pe_callB (r := rLenS K) call_len_seq (by rfl) T.b_len (by decide +kernel) (pa_cons (pv 1) pa_nil)) pa_nil)) (pg_name (i := 5) sc_law_any.nd rfl (.inl rfl))
      (pss_cons (ps_set (i := 6) sc_law_any.nd rfl (.inr rfl) (pe_callB (r := rMin K) (cr_min rfl) (by rfl) T.b_min (by decide +kernel) (pa_cons (pe_lc (own := [("_law_place", 8)]) rfl sc_law_any.nd (pi_listA (K := K) (pv 2)) (blkOk_by (own := [("_law_place", 8)]) (N := ["_law_generator_here", "_law_places_here", "_law_left", "_law_order", "_law_numbers", "_law_turn", "_law_least", "_law_some", "_law_place"]) (sc := defScope s_law_any) (by decide +kernel)) (fun _ _ _ _ _ => (pg_name (i := 8) sc_law_any.nd rfl (Or.inl rfl))) (fun _ _ _ _ _ => pts_nil) (fun _ _ _ _ _ => (pe_fo F_law_between (hr.mono (by decide)) (by rfl) (pa_cons (pv 3) (pa_cons (pv 8) pa_nil))))) pa_nil)))
     (pss_cons (ps_setLc (i := 7) (own := [("_law_place", 8)]) rfl sc_law_any.nd rfl rfl (sw_true rfl rfl rfl (by decide +kernel)) (pi_listA (K := K) (pv 2)) (blkOk_by (own := [("_law_place", 8)]) (N := ["_law_generator_here", "_law_places_here", "_law_left", "_law_order", "_law_numbers", "_law_turn", "_law_least", "_law_some", "_law_place"]) (sc := defScope s_law_any) (by decide +kernel)) (fun _ _ _ _ _ => (pg_name (i := 8) sc_law_any.nd rfl (Or.inl rfl))) (fun _ _ _ _ _ => (pts_one (pt_cmpR op_eq (pe_fo F_law_between (hr.mono (by decide)) (by rfl) (pa_cons (pv 3) (pa_cons (pv 8) pa_nil))) (pv 6) (nomark _)))) (fun _ _ _ _ _ => (pv 8)))
     (pss_cons (ps_expr (pe_bm PySem.F.plainAttrs_list PySem.F.slot_list_append PySem.F.type_list_append mt_append (pv 3) (pa_cons (pe_ix (r := rIxL K) ix_list (pv 7) (pe_fo F_law_random (hr.mono (by decide)) (by rfl) (pa_cons (pv 0) (pa_cons (pe_callB (r := rLenS K) call_len_seq (by rfl) T.b_len (by decide +kernel) (pa_cons (pv 7) pa_nil)) pa_nil))) (fun _ _ => rfl)) pa_nil)))
     (pss_cons (ps_expr (pe_bm PySem.F.plainAttrs_list PySem.F.slot_list_append PySem.F.type_list_append mt_append (pv 4) (pa_cons (pv 6) pa_nil)))
     (pss_one (ps_setLc (i := 2) (own := [("_law_place", 8)]) rfl sc_law_any.nd rfl rfl (sw_true rfl rfl rfl (by decide +kernel)) (pi_listA (K := K) (pv 2)) (blkOk_by (own := [("_law_place", 8)]) (N := ["_law_generator_here", "_law_places_here", "_law_left", "_law_order", "_law_numbers", "_law_turn", "_law_least", "_law_some", "_law_place"]) (sc := defScope s_law_any) (by decide +kernel)) (fun _ _ _ _ _ => (pg_name (i := 8) sc_law_any.nd rfl (Or.inl rfl))) (fun _ _ _ _ _ => (pts_one (pt_cmpR op_ne (pv 8) (pe_ix (r := rIxL K) ix_list (pv 3) (pe_un un_neg pe_int) (fun _ _ => rfl)) (nomark _)))) (fun _ _ _ _ _ => (pv 8)))))))))
     (pss_one (ps_ret (pe_tup (pa_cons (pv 3) (pa_cons (pv 4) pa_nil))))))), fun σ Q en q => ?_⟩
  obtain ⟨g, ps⟩ := i
  obtain ⟨eG, hp⟩ := hp
  subst eG
  have hp : ps.Nodup ∧ ps.length ≤ 100 ∧ (∀ a ∈ ps, a.natAbs < 2 ^ 65) := hp
  have hz1 : z0 + (40000 : Nat) ≤ 2 ^ 50 := hz
  have n := Nx.refl at0
  obtain ⟨nd, h100, sm⟩ := hp
  refine q_parT3XLL (i := 2) (j := 3) (k := 4) at0 n en (ty_listOf (ty_var (x := ps) rfl)) tn_nil tn_nil (by omega) fun left order numbers l_order l_numbers z' B' H' σ' e_left e_order e_numbers l_order_numbers g_order g_numbers s n en => ?_
  have hl_order := g_order.hl
  have nl_order := g_order.nl
  have n0_order := g_order.n0
  have gl_order := at0.ne n0_order
  have hl_numbers := g_numbers.hl
  have nl_numbers := g_numbers.nl
  have n0_numbers := g_numbers.n0
  have gl_numbers := at0.ne n0_numbers
  have l_numbers_order := l_order_numbers.symm
  replace e_left := e_left.symm
  subst e_left
  replace e_order := e_order.symm
  subst e_order
  have ea_order := Each.of_ints (B := B') ([] : List Int)
  replace e_numbers := e_numbers.symm
  subst e_numbers
  have ea_numbers := Each.of_ints (B := B') ([] : List Int)
  refine q_for1S at0 n en (cb := 400) (ty_len (ty_var (x := ps) rfl)) ⟨by omega, by omega⟩ (by omega) (fun k Γ B H => ∃ (lf : (List Int)) (xs_order : List Int) (us_order : List V) (xs_numbers : List Int) (us_numbers : List V) (o5 o6 o7 o8 : Option VP), Γ = [some (Py.is (GenR.mk g)), some (Py.is (ps : (List Int))), some (Py.is lf), some (RefP l_order), some (RefP l_numbers), o5, o6, o7, o8] ∧ (Each B (xs_order) (us_order) ∧ H l_order = some (.lst (us_order)) ∧ B l_order = none) ∧ (Each B (xs_numbers) (us_numbers) ∧ H l_numbers = some (.lst (us_numbers)) ∧ B l_numbers = none) ∧ (RunG ps xs_order xs_numbers lf ∧ xs_order.length = k ∧ ∀ a ∈ xs_order, a ∈ ps)) (fun z' B' H' s en => ⟨ps, ([] : List Int), (([] : List Int).map V.int), ([] : List Int), (([] : List Int).map V.int), _, _, _, _, rfl, ⟨ea_order.ex s.up, (s.keepL gl_order hl_order nl_order).1, (s.keepL gl_order hl_order nl_order).2⟩, ⟨ea_numbers.ex s.up, (s.keepL gl_numbers hl_numbers nl_numbers).1, (s.keepL gl_numbers hl_numbers nl_numbers).2⟩, ⟨rung_start nd, rfl, fun a h => nomatch h⟩⟩) (fun _ _ _ _ _ ⟨x0, x1, x2, x3, x4, x5, x6, x7, x8, e, ⟨a0, b0, c0⟩, ⟨a1, b1, c1⟩, inv⟩ ex => ⟨x0, x1, x2, x3, x4, x5, x6, x7, x8, e, ⟨a0, ex _ _ b0, c0⟩, ⟨a1, ex _ _ b1, c1⟩, inv⟩) (fun Bs k  Γ' z' B' H' σ' hk inv eb n en => ?_) fun Γ' z' B' H' σ' inv eb2 n en => ?_
  · obtain ⟨lf, xs_order, us_order, xs_numbers, us_numbers, o5, o6, o7, o8, rfl, ⟨ea_order, hl_order, nl_order⟩, ⟨ea_numbers, hl_numbers, nl_numbers⟩, inv⟩ := inv
    obtain ⟨r, ko, osub⟩ := inv
    have ra := r.all
    have rl := r.len
    have lne : lf ≠ [] := fun e => by rw [e, List.length_nil] at ra; omega
    have lpos := List.length_pos_iff.mpr lne
    obtain ⟨Bs1, rfl⟩ : ∃ b, b = B' := ⟨_, rfl⟩
    have ns1 := n
    have ebo1 := eb
    have eb : Ex Bs1 Bs1 := Ex.refl _
    have en := en.ageR (.cons (GenR.mk g) (.cons (ps : (List Int)) (.cons (lf : (List Int)) (.ref l_order (.ref l_numbers (.cons ((k : Int) : Int) (.skip (.skip (.skip .nil)))))))))
    have nl1_order := nl_order
    replace hl_order := hl_order.trans (congrArg (fun u => some (HO.lst u)) ea_order.ints)
    have nl1_numbers := nl_numbers
    replace hl_numbers := hl_numbers.trans (congrArg (fun u => some (HO.lst u)) ea_numbers.ints)
    have nl_numbers : upd _ l_order (HO.lst (List.map V.int xs_order)) l_numbers = none := (upd_ne l_numbers_order).trans nl_numbers
    have fr_order := n.freeze at0 hl_order nl_order n0_order
    have eb := eb.trans fr_order.2
    replace en := (en.up fr_order.2).renew (k := 3) rfl (Py.stays (LAt.mk l_order (xs_order : List Int))) ⟨rfl, upd_same⟩
    replace n := fr_order.1
    have fr_numbers := n.freeze at0 hl_numbers nl_numbers n0_numbers
    have eb := eb.trans fr_numbers.2
    replace en := (en.up fr_numbers.2).renew (k := 4) rfl (Py.stays (LAt.mk l_numbers (xs_numbers : List Int))) ⟨rfl, upd_same⟩
    replace n := fr_numbers.1
    refine q_asgS at0 n en (i := 6) (ty_minD (ty_lcM (f := (fun place : Int => twosTo place xs_order)) (ty_var (x := (OldV.mk (lf : (List Int)) : OldV Bs1 (List Int))) rfl).old (by omega) (by simp) fun place h_place => (z__law_between (ty_var (x := LAt.mk l_order (xs_order : List Int)) rfl).lat (ty_var (x := place) rfl) ⟨by have := r.len; have := r.all; omega, fun a ha => diff_66 (sm _ (r.sub _ h_place)) (sm _ (osub a ha))⟩)) (by simpa using lne)) (by omega) fun least z' B' H' σ' e_least s n en => ?_
    have eb := eb.trans s.up
    obtain ⟨hl, q0, hq0, el⟩ := least_any lne e_least
    have bl_order := en.lat (k := 3) (l := l_order) (xs := xs_order) rfl
    have bl_numbers := en.lat (k := 4) (l := l_numbers) (xs := xs_numbers) rfl
    refine q_asgLS (i := 7) at0 n en (tn_lcL flat_int (p := fun place2 : Int => decide (twosTo place2 xs_order = least)) (f := (fun place2 : Int => place2)) (ty_var (x := (OldV.mk (lf : (List Int)) : OldV Bs1 (List Int))) rfl).old (by omega) (by simp) (fun place2 h_place2 => (tt_test (ty_eqI (z__law_between (ty_var (x := LAt.mk l_order (xs_order : List Int)) rfl).lat (ty_var (x := place2) rfl) ⟨by have := r.len; have := r.all; omega, fun a ha => diff_66 (sm _ (r.sub _ h_place2)) (sm _ (osub a ha))⟩) (ty_var (x := least) rfl)))) fun place2 h_place2 hp_place2 => (ty_var (x := place2) rfl)) (by omega) fun some_ l_some_ z' B' H' σ' e_some_ s n nb_some_ n0_some_ _ en => ?_
    have l_order_some_ : l_order ≠ l_some_ := ref_ne bl_order nb_some_
    have l_some__order := l_order_some_.symm
    have l_numbers_some_ : l_numbers ≠ l_some_ := ref_ne bl_numbers nb_some_
    have l_some__numbers := l_numbers_some_.symm
    have nl_some_ := Ex.no eb nb_some_
    have eb := eb.trans s.up
    have so := some_all e_some_
    have spos : 0 < some_.length := some_pos e_some_ hq0 el
    have sl : some_.length ≤ lf.length := some_len e_some_
    have bl_some_ := en.lat (k := 7) (l := l_some_) (xs := some_) rfl
    have hl_some_ := n.at_.ex _ _ bl_some_
    have gl_some_ := at0.ne n0_some_
    have ea_some_ := Each.of_ints (B := Bs1) some_
    have bl_numbers := en.lat (k := 4) (l := l_numbers) (xs := xs_numbers) rfl
    have hl_numbers := n.at_.ex _ _ bl_numbers
    have gl_numbers := at0.ne n0_numbers
    have ea_numbers := Each.of_ints (B := Bs1) xs_numbers
    have nl_numbers := nl1_numbers
    have bl_order := en.lat (k := 3) (l := l_order) (xs := xs_order) rfl
    have hl_order := n.at_.ex _ _ bl_order
    have gl_order := at0.ne n0_order
    have ea_order := Each.of_ints (B := Bs1) xs_order
    have nl_order := nl1_order
    have en := en.young (.old (GenR.mk g) (.old (ps : (List Int)) (.old (lf : (List Int)) (.lat (.lat (.old ((k : Int) : Int) (.flat (flat_int least) (.lat (.skip .nil)))))))))
    have n := Nx.back ns1 n eb
    have eb := ebo1
    have nl_numbers : upd _ l_some_ (HO.lst ((some_.map V.int))) l_numbers = none := (upd_ne l_numbers_some_).trans nl_numbers
    have nl_order : upd _ l_some_ (HO.lst ((some_.map V.int))) l_order = none := (upd_ne l_order_some_).trans nl_order
    have fr_some_ := n.freeze at0 hl_some_ nl_some_ n0_some_
    have ea_numbers := ea_numbers.ex fr_some_.2
    have ea_order := ea_order.ex fr_some_.2
    have eb := eb.trans fr_some_.2
    replace en := (en.up fr_some_.2).renew (k := 7) rfl (Py.stays some_) ⟨l_some_, (some_.map V.int), rfl, upd_same, ea_some_.ex fr_some_.2⟩
    replace n := fr_some_.1
    refine q_appS at0 n en (k := 3) rfl hl_order nl_order n0_order (by rw [ea_order.len]; omega) (ty_ixN (ty_var (x := some_) rfl) (z__law_random (ty_var (x := GenR.mk g) rfl) (ty_len (ty_var (x := some_) rfl)) (small_b (by omega) (Int.le_trans (b := 100) (by omega) (by decide)))) (fun xs i ex hi => ix_any so (by rw [ex]; exact hi) ex)) (by omega) fun y v_order_y z' B' H' e_y hv_order up n en hl_order nl_order keep new => ?_
    have eb := eb.trans up
    have ea_order := (ea_order.ex up).snoc hv_order
    have ea_numbers := ea_numbers.ex up
    have nl_numbers := keep2 nl_numbers hl_numbers new
    have hl_numbers := keep _ _ gl_numbers l_numbers_order hl_numbers
    obtain ⟨ym, ye⟩ := e_y
    refine q_appS at0 n en (k := 4) rfl hl_numbers nl_numbers n0_numbers (by rw [ea_numbers.len]; omega) (ty_var (x := least) rfl) (by omega) fun y2 v_numbers_y2 z' B' H' e_y2 hv_numbers up n en hl_numbers nl_numbers keep new => ?_
    have eb := eb.trans up
    have ea_numbers := (ea_numbers.ex up).snoc hv_numbers
    have ea_order := ea_order.ex up
    have nl_order := keep2 nl_order hl_order new
    have hl_order := keep _ _ gl_order l_order_numbers hl_order
    replace e_y2 := e_y2.symm
    subst e_y2
    obtain ⟨Bs2, rfl⟩ : ∃ b, b = B' := ⟨_, rfl⟩
    have ns2 := n
    have ebo2 := eb
    have eb : Ex Bs2 Bs2 := Ex.refl _
    have en := en.ageR (.cons (GenR.mk g) (.cons (ps : (List Int)) (.cons (lf : (List Int)) (.ref l_order (.ref l_numbers (.cons ((k : Int) : Int) (.cons (least : Int) (.cons (some_ : (List Int)) (.skip .nil)))))))))
    have nl1_numbers := nl_numbers
    replace hl_numbers := hl_numbers.trans (congrArg (fun u => some (HO.lst u)) ea_numbers.ints)
    have nl1_order := nl_order
    replace hl_order := hl_order.trans (congrArg (fun u => some (HO.lst u)) ea_order.ints)
    have nl_order : upd _ l_numbers (HO.lst (List.map V.int (xs_numbers ++ [least]))) l_order = none := (upd_ne l_order_numbers).trans nl_order
    have fr_numbers := n.freeze at0 hl_numbers nl_numbers n0_numbers
    have eb := eb.trans fr_numbers.2
    replace en := (en.up fr_numbers.2).renew (k := 4) rfl (Py.stays (LAt.mk l_numbers ((xs_numbers ++ [least]) : List Int))) ⟨rfl, upd_same⟩
    replace n := fr_numbers.1
    have fr_order := n.freeze at0 hl_order nl_order n0_order
    have eb := eb.trans fr_order.2
    replace en := (en.up fr_order.2).renew (k := 3) rfl (Py.stays (LAt.mk l_order ((xs_order ++ [y]) : List Int))) ⟨rfl, upd_same⟩
    replace n := fr_order.1
    have bl_order := en.lat (k := 3) (l := l_order) (xs := (xs_order ++ [y])) rfl
    have bl_numbers := en.lat (k := 4) (l := l_numbers) (xs := (xs_numbers ++ [least])) rfl
    refine q_asgLE (i := 2) at0 n en (tn_lcL flat_int (p := fun place3 : Int => (!decide (place3 = ((xs_order ++ [y]).getD ((xs_order ++ [y]).length - 1) 0)))) (f := (fun place3 : Int => place3)) (ty_var (x := (OldV.mk (lf : (List Int)) : OldV Bs2 (List Int))) rfl).old (by omega) (by simp) (fun place3 h_place3 => (tt_test (ty_neI (ty_var (x := place3) rfl) (ty_ixLast 0 (ty_var (x := LAt.mk l_order ((xs_order ++ [y]) : List Int)) rfl).lat (ty_neg ty_i) (by simp))))) fun place3 h_place3 hp_place3 => (ty_var (x := place3) rfl)) (by omega) fun left2 l_left2 z' B' H' σ' e_left2 s n nb_left2 n0_left2 _ en => ?_
    have l_order_left2 : l_order ≠ l_left2 := ref_ne bl_order nb_left2
    have l_left2_order := l_order_left2.symm
    have l_numbers_left2 : l_numbers ≠ l_left2 := ref_ne bl_numbers nb_left2
    have l_left2_numbers := l_numbers_left2.symm
    have nl_left2 := Ex.no eb nb_left2
    have eb := eb.trans s.up
    have bl_numbers := en.lat (k := 4) (l := l_numbers) (xs := (xs_numbers ++ [least])) rfl
    have hl_numbers := n.at_.ex _ _ bl_numbers
    have gl_numbers := at0.ne n0_numbers
    have ea_numbers := Each.of_ints (B := Bs2) (xs_numbers ++ [least])
    have nl_numbers := nl1_numbers
    have bl_order := en.lat (k := 3) (l := l_order) (xs := (xs_order ++ [y])) rfl
    have hl_order := n.at_.ex _ _ bl_order
    have gl_order := at0.ne n0_order
    have ea_order := Each.of_ints (B := Bs2) (xs_order ++ [y])
    have nl_order := nl1_order
    have bl_left2 := en.lat (k := 2) (l := l_left2) (xs := left2) rfl
    have hl_left2 := n.at_.ex _ _ bl_left2
    have gl_left2 := at0.ne n0_left2
    have ea_left2 := Each.of_ints (B := Bs2) left2
    have en := en.young (.old (GenR.mk g) (.old (ps : (List Int)) (.lat (.lat (.lat (.old ((k : Int) : Int) (.old (least : Int) (.old (some_ : (List Int)) (.skip .nil)))))))))
    have n := Nx.back ns2 n eb
    have eb := ebo2
    have nl_numbers : upd _ l_left2 (HO.lst ((left2.map V.int))) l_numbers = none := (upd_ne l_numbers_left2).trans nl_numbers
    have nl_order : upd _ l_left2 (HO.lst ((left2.map V.int))) l_order = none := (upd_ne l_order_left2).trans nl_order
    have fr_left2 := n.freeze at0 hl_left2 nl_left2 n0_left2
    have ea_numbers := ea_numbers.ex fr_left2.2
    have ea_order := ea_order.ex fr_left2.2
    have eb := eb.trans fr_left2.2
    replace en := (en.up fr_left2.2).renew (k := 2) rfl (Py.stays left2) ⟨l_left2, (left2.map V.int), rfl, upd_same, ea_left2.ex fr_left2.2⟩
    replace n := fr_left2.1
    exact ⟨_, z', _, ⟨left2, (xs_order ++ [y]), ((xs_order ++ [y]).map V.int), (xs_numbers ++ [least]), ((xs_numbers ++ [least]).map V.int), _, _, _, _, rfl, ⟨ea_order, hl_order, nl_order⟩, ⟨ea_numbers, hl_numbers, nl_numbers⟩, ⟨by rw [e_left2, last_get, filt_ne]; exact rung_step r ym ye.symm hl, by rw [List.length_append, ko]; rfl, all_snoc5 osub (r.sub _ ym)⟩⟩, eb, n.le (by omega), en⟩
  · obtain ⟨lf, xs_order, us_order, xs_numbers, us_numbers, o5, o6, o7, o8, rfl, ⟨ea_order, hl_order, nl_order⟩, ⟨ea_numbers, hl_numbers, nl_numbers⟩, inv⟩ := inv
    have nl_order : upd _ l_numbers (HO.lst (us_numbers)) l_order = none := (upd_ne l_order_numbers).trans nl_order
    have fr_numbers := n.freeze at0 hl_numbers nl_numbers n0_numbers
    have ea_order := ea_order.ex fr_numbers.2
    replace en := (en.up fr_numbers.2).renew (k := 4) rfl (Py.stays xs_numbers) ⟨l_numbers, us_numbers, rfl, upd_same, ea_numbers.ex fr_numbers.2⟩
    replace n := fr_numbers.1
    have fr_order := n.freeze at0 hl_order nl_order n0_order
    replace en := (en.up fr_order.2).renew (k := 3) rfl (Py.stays xs_order) ⟨l_order, us_order, rfl, upd_same, ea_order.ex fr_order.2⟩
    replace n := fr_order.1
    refine q_ret at0 n en (ty_tup2 (ty_var (x := xs_order) rfl) (ty_var (x := xs_numbers) rfl)) (by omega) fun x v z' B' H' e n h => q x v z' B' H' ?_ (n.le (by show _ ≤ 40000; omega)) h
    exact by rw [e]; obtain ⟨r, ko, _⟩ := inv; exact rung_done r (by rw [ko]; simp)
end
end K05
set_option maxHeartbeats 4000000
namespace K05
open PySem PySem.Spec PyProof.Rows L2 AP Evl
theorem tois_list {v : List Int} : (DatOf.toD v).isT .list = true := rfl
theorem len_eq {a : Bool} {v ps : List Int} (h : (a || !decide (((v.length : Nat) : Int) = ((ps.length : Nat) : Int))) = false) : v.length = ps.length := by
  rw [Bool.or_eq_false_iff] at h
  have := h.2
  simp at this
  omega
theorem whole_or {d : Dat} (h1 : (!d.isT .int) = false) (h2 : d.isT .bool = false) : d.whole = true := by
  rw [← Dat.whole_eq, h2]
  simpa using h1
abbrev onceB (v : List Int) (x : Int) : Bool := decide ((1 : Int) < (((((v.filter fun other : Int => decide (other = x)).map fun _ : Int => (1 : Int)).length : Nat) : Int)))
abbrev itemB (v ps : List Int) (x : Int) : Bool := (!(DatOf.toD x).isT .int) || ((DatOf.toD x).isT .bool || ((!decide (x ∈ ps)) || onceB v x))
theorem item_eq {v ps : List Int} {x : Int} : itemB v ps x = ((!decide (x ∈ ps)) || onceB v x) := rfl
theorem good_item {v ps : List Int} {x : Int} (h : itemB v ps x = false) : x ∈ ps ∧ (v.filter fun o => decide (o = x)).length ≤ 1 := by
  rw [item_eq, Bool.or_eq_false_iff] at h
  obtain ⟨a, b⟩ := h
  refine ⟨by simpa using a, ?_⟩
  have b := of_decide_eq_false b
  rw [List.length_map] at b
  omega
theorem filt_nodup {v : List Int} (nd : v.Nodup) (x : Int) : (v.filter fun o => decide (o = x)).length ≤ 1 := by
  have h := nodup_le (l := v.filter fun o => decide (o = x)) (m := [x]) (nd.filter _) fun y hy => by
    have := of_decide_eq_true (List.mem_filter.mp hy).2
    rw [this]
    exact List.mem_singleton_self x
  exact h
theorem bad_item {v ps : List Int} {x : Int} (nd : ps.Nodup) (hx : x ∈ v) (h : itemB v ps x = true) : ¬ v.Perm ps := fun p => by
  rw [item_eq, decide_eq_true (p.mem_iff.mp hx)] at h
  have h : onceB v x = true := h
  have h := of_decide_eq_true h
  rw [List.length_map] at h
  have := filt_nodup (p.nodup_iff.mpr nd) x
  omega
theorem items_step {v ps : List Int} {k : Nat} {x : Int} (hx : v[k]? = some x) (inv : ∀ x ∈ v.take k, x ∈ ps ∧ (v.filter fun o => decide (o = x)).length ≤ 1) (g : x ∈ ps ∧ (v.filter fun o => decide (o = x)).length ≤ 1) :
    ∀ x ∈ v.take (k + 1), x ∈ ps ∧ (v.filter fun o => decide (o = x)).length ≤ 1 := by
  rw [List.take_succ, hx]
  intro y hy
  rcases List.mem_append.mp hy with q | q
  · exact inv y q
  · have q : y ∈ [x] := q
    rw [List.mem_singleton.mp q]; exact g
theorem once_nodup : ∀ {v : List Int}, (∀ x ∈ v, (v.filter fun o => decide (o = x)).length ≤ 1) → v.Nodup
  | [], _ => List.nodup_nil
  | a :: r, h => by
    refine List.nodup_cons.mpr ⟨fun hm => ?_, once_nodup fun x hx => ?_⟩
    · have := h a List.mem_cons_self
      rw [List.filter_cons, if_pos (by simp), List.length_cons] at this
      have l := List.length_pos_of_mem (List.mem_filter.mpr ⟨hm, by simp⟩ : a ∈ r.filter fun o => decide (o = a))
      omega
    · have := h x (List.mem_cons_of_mem _ hx)
      rw [List.filter_cons] at this
      split at this
      · rw [List.length_cons] at this; omega
      · exact this
theorem perm_items {v ps : List Int} (nd : ps.Nodup) (hl : v.length = ps.length) (h : ∀ x ∈ v, x ∈ ps ∧ (v.filter fun o => decide (o = x)).length ≤ 1) : v.Perm ps := by
  have nv := once_nodup fun x hx => (h x hx).2
  refine perm_of_mem nv nd fun x => ⟨fun hx => (h x hx).1, fun hx => ?_⟩
  by_cases m : x ∈ v
  · exact m
  · have := nodup_le (l := x :: v) (m := ps) (List.nodup_cons.mpr ⟨m, nv⟩) fun y hy => by
      rcases List.mem_cons.mp hy with rfl | q
      · exact hx
      · exact (h y q).1
    rw [List.length_cons] at this
    omega
theorem good_zero {v : List Int} : goodAt v 0 := fun p _ => Int.le_refl _
theorem many_step {v : List Int} {k : Nat} (inv : ∀ m, m < 1 + k → goodAt v m) (g : goodAt v (1 + k)) : ∀ m, m < 1 + (k + 1) → goodAt v m := fun m h => by
  rcases Nat.lt_or_ge m (1 + k) with q | q
  · exact inv m q
  · rw [show m = 1 + k by omega]; exact g
abbrev manyB (v : List Int) (k : Nat) : Bool := !decide (twosTo (v.getD ((1 : Int) + (k : Int)).toNat 0) (cutL v none (some ((1 : Int) + (k : Int)))) = minI ((cutL v (some ((1 : Int) + (k : Int))) none).map fun place : Int => twosTo place (cutL v none (some ((1 : Int) + (k : Int))))))
theorem many_eq (v : List Int) (k : Nat) : manyB v k = !decide (twosTo (v.getD (1 + k) 0) (v.take (1 + k)) = minI ((v.drop (1 + k)).map fun p => twosTo p (v.take (1 + k)))) := by
  unfold manyB
  rw [cutL_upto (by omega), cutL_from (by omega), show ((1 : Int) + (k : Int)).toNat = 1 + k by omega]
theorem getd_mem {v : List Int} {m : Nat} (h : m < v.length) : v.getD m 0 ∈ v.drop m := by
  rw [List.getD_eq_getElem?_getD, List.getElem?_eq_getElem h]
  exact mem_drop_at h
theorem good_many {v : List Int} {k : Nat} (kv : 1 + k < v.length) (h : manyB v k = false) : goodAt v (1 + k) := by
  rw [many_eq] at h
  have h : twosTo (v.getD (1 + k) 0) (v.take (1 + k)) = minI ((v.drop (1 + k)).map fun p => twosTo p (v.take (1 + k))) := by simpa using h
  intro p hp
  rw [h]
  exact (minI_ok (fun z => by rw [List.map_eq_nil_iff.mp z] at hp; cases hp)).2 _ (List.mem_map.mpr ⟨p, hp, rfl⟩)
theorem bad_many {v : List Int} {k : Nat} (kv : 1 + k < v.length) (h : manyB v k = true) (ps : List Int) : goodL ps v = false := by
  rw [many_eq] at h
  have h : ¬ twosTo (v.getD (1 + k) 0) (v.take (1 + k)) = minI ((v.drop (1 + k)).map fun p => twosTo p (v.take (1 + k))) := by simpa using h
  have gm := getd_mem kv
  obtain ⟨a, b⟩ := minI_ok (l := (v.drop (1 + k)).map fun p => twosTo p (v.take (1 + k))) (fun z => by rw [List.map_eq_nil_iff.mp z] at gm; cases gm)
  have c := b _ (List.mem_map.mpr ⟨_, gm, rfl⟩)
  obtain ⟨q, hq, e⟩ := List.mem_map.mp a
  exact goodL_bad kv hq (by rw [e]; omega)
theorem diff_67 {x a : Int} (hx : x.natAbs < 2 ^ 67) (ha : a.natAbs < 2 ^ 67) : (x - a).natAbs < 2 ^ 200 := by
  have h : (x - a).natAbs ≤ x.natAbs + a.natAbs := Int.natAbs_sub_le x a
  have e : (2 : Nat) ^ 68 = 2 * 2 ^ 67 := by decide
  have l : (2 : Nat) ^ 68 ≤ 2 ^ 200 := Nat.pow_le_pow_right (by decide) (by decide)
  omega
theorem twos_pre {v : List Int} {j : Int} {x : Int} (vl : v.length ≤ 200) (vs : ∀ a ∈ v, a.natAbs < 2 ^ 67) (hx : x ∈ v) : (cutL v none (some j)).length ≤ 1000 ∧ ∀ a ∈ cutL v none (some j), (x - a).natAbs < 2 ^ 200 := by
  refine ⟨Nat.le_trans (cutL_len ..) (by omega), fun a ha => diff_67 (vs x hx) (vs a ?_)⟩
  unfold cutL at ha
  exact List.mem_of_mem_drop (List.mem_of_mem_take ha)
theorem cut_mem {v : List Int} {i j : Option Int} {x : Int} (h : x ∈ cutL v i j) : x ∈ v := by
  unfold cutL at h
  exact List.mem_of_mem_drop (List.mem_of_mem_take h)
theorem at_mem {v : List Int} {k : Nat} (kv : 1 + k < v.length) : v.getD ((1 : Int) + (k : Int)).toNat 0 ∈ v := by
  rw [show ((1 : Int) + (k : Int)).toNat = 1 + k by omega]
  exact List.mem_of_mem_drop (getd_mem kv)
theorem cut_ne {v : List Int} {k : Nat} {f : Int → Int} (kv : 1 + k < v.length) : (cutL v (some ((1 : Int) + (k : Int))) none).map f ≠ [] := fun z => by
  rw [cutL_from (by omega), show ((1 : Int) + (k : Int)).toNat = 1 + k by omega] at z
  have := getd_mem kv
  rw [List.map_eq_nil_iff.mp z] at this
  cases this
theorem whole_not {d : Dat} {b : Bool} (h : ((!d.isT .int) || (d.isT .bool || b)) = false) : d.whole = true := by
  rw [Bool.or_eq_false_iff, Bool.or_eq_false_iff] at h
  exact whole_or h.1 h.2.1
theorem wholes_step {ds : List Dat} {k : Nat} {x : Dat} (hx : ds[k]? = some x) (inv : ∀ x ∈ ds.take k, x.whole = true) (g : x.whole = true) : ∀ x ∈ ds.take (k + 1), x.whole = true := by
  rw [List.take_succ, hx]
  intro y hy
  rcases List.mem_append.mp hy with q | q
  · exact inv y q
  · have q : y ∈ [x] := q
    rw [List.mem_singleton.mp q]; exact g
section
variable {G : Option Addr} {c0 c1 c2 c3 c4 c5 c6 c7 : Nat} {t0 t1 t2 t3 t4 t5 t6 t7 : TE} {Γ : AP.Ctx} {g : Addr}
def cLawGoodA : AP.Con ((List Int) × (List Int)) Bool := ⟨fun i => [Py.is i.1, Py.is i.2], fun i G => i.1.Nodup ∧ i.1.length ≤ 100 ∧ (∀ a ∈ i.1, a.natAbs < 2 ^ 65) ∧ i.2.length ≤ 200 ∧ (∀ a ∈ i.2, a.natAbs < 2 ^ 67), fun _ => 0, fun i r => r = goodL i.1 i.2⟩
def cLawGoodB : AP.Con ((List Int) × Dat) Bool := ⟨fun i => [Py.is i.1, Py.is i.2], fun i G => i.2.isT .list = false, fun _ => 0, fun i r => r = false⟩
def cLawGoodC : AP.Con ((List Int) × (List Dat)) Bool := ⟨fun i => [Py.is i.1, Py.is i.2], fun i G => i.1.length ≤ 100 ∧ i.2.length ≤ 200 ∧ (∀ d ∈ i.2, Shp d) ∧ ∃ d ∈ i.2, d.whole = false, fun _ => 0, fun i r => r = false⟩
end
section
variable {P : Program} {w : World} {K : PySem.W.Frag} {mg : Str → Option Value} {base : Heap}
abbrev s_law_is_good : Stmt := topS 38
theorem sc_law_is_good : FnScope ["_law_places_here", "_law_value", "_law_place", "_law_many", "_law_other"] ["_law_places_here", "_law_value"] (defScope s_law_is_good) := ⟨rfl, rfl, rfl, by decide +kernel, rfl, by decide +kernel, by decide +kernel⟩
theorem ok_judge_ints {f : Addr} {fd : FuncData} (F : Df K "_law_is_good" "_law_is_good" s_law_is_good [] f fd) (T : TN mg)  (F_law_between : Fo P w K mg base "_law_between" 2 ["_law_row", "_law_place"] cBetw5.sp) :
    FnOk P w K mg base CX0 3 f fd ["_law_places_here", "_law_value"] cLawGoodA.sp := by
  refine con_go F sc_law_is_good cLawGoodA (fun _ => rfl) fun cdv A outer s H E i G z0 B0 hr hp at0 hz => ⟨_, (pss_cons (ps_if (PW.pt (pw_or (pt_not (pt_val (pe_callB (r := rIsi K) call_isi (by rfl) T.b_isinstance (by decide +kernel) (pa_cons (pv 1) (pa_cons (pe_bltn (v := .ty "list") (by rfl) T.b_list (by decide +kernel) rfl) pa_nil))))) (pw_or1 (pt_cmpR op_ne (pe_callB (r := rLenS K) call_len_seq (by rfl) T.b_len (by decide +kernel) (pa_cons (pv 1) pa_nil)) (pe_callB (r := rLenS K) call_len_seq (by rfl) T.b_len (by decide +kernel) (pa_cons (pv 0) pa_nil)) (nomark _))))) (pss_one (ps_ret pe_bl)) pss_nil)
     (pss_cons (ps_for PassesOwn.never rfl (pi_listA (K := K) (pv 1)) (pg_name (i := 2) sc_law_is_good.nd rfl (.inr rfl))
      (pss_one (ps_if (PW.pt (pw_or (pt_not (pt_val (pe_callB (r := rIsi K) call_isi (by rfl) T.b_isinstance (by decide +kernel) (pa_cons (pv 2) (pa_cons (pe_bltn (v := .ty "int") (by rfl) T.b_int (by decide +kernel) rfl) pa_nil))))) (pw_or (pt_val (pe_callB (r := rIsi K) call_isi (by rfl) T.b_isinstance (by decide +kernel) (pa_cons (pv 2) (pa_cons (pe_bltn (v := .ty "bool") (by rfl) T.b_bool (by decide +kernel) rfl) pa_nil)))) (pw_or (pt_cmpR (r := rIn K true) op_notIn_seq (pv 2) (pv 0) (by rfl)) (pw_or1 (pt_cmpR op_gt (pe_callB (r := rLenS K) call_len_seq (by rfl) T.b_len (by decide +kernel) (pa_cons (pe_lc (own := [("_law_other", 4)]) rfl sc_law_is_good.nd (pi_listA (K := K) (pv 1)) (blkOk_by (own := [("_law_other", 4)]) (N := ["_law_places_here", "_law_value", "_law_place", "_law_many", "_law_other"]) (sc := defScope s_law_is_good) (by decide +kernel)) (fun _ _ _ _ _ => (pg_name (i := 4) sc_law_is_good.nd rfl (Or.inl rfl))) (fun _ _ _ _ _ => (pts_one (pt_cmpR op_eq (pv 4) (pv 2) (nomark _)))) (fun _ _ _ _ _ => pe_int)) pa_nil)) pe_int (nomark _))))))) (pss_one (ps_ret pe_bl)) pss_nil)))
     (pss_cons (ps_for PassesOwn.never rfl (pi_range2 (by rfl) T.b_range (pa_cons pe_int (pa_cons (pe_callB (r := rLenS K) call_len_seq (by rfl) T.b_len (by decide +kernel) (pa_cons (pv 1) pa_nil)) pa_nil))) (pg_name (i := 3) sc_law_is_good.nd rfl (.inr rfl))
      (pss_one (ps_if (pt_cmpR op_ne (pe_fo F_law_between (hr.mono (by decide)) (by rfl) (pa_cons (pe_slice (r := rSlL K) sl_list (pv 1) po_none (po_some (pv 3))) (pa_cons (pe_ix (r := rIxL K) ix_list (pv 1) (pv 3) (fun _ _ => rfl)) pa_nil))) (pe_callB (r := rMin K) (cr_min rfl) (by rfl) T.b_min (by decide +kernel) (pa_cons (pe_lc (own := [("_law_place", 2)]) rfl sc_law_is_good.nd (pi_listA (K := K) (pe_slice (r := rSlL K) sl_list (pv 1) (po_some (pv 3)) po_none)) (blkOk_by (own := [("_law_place", 2)]) (N := ["_law_places_here", "_law_value", "_law_place", "_law_many", "_law_other"]) (sc := defScope s_law_is_good) (by decide +kernel)) (fun _ _ _ _ _ => (pg_name (i := 2) sc_law_is_good.nd rfl (Or.inl rfl))) (fun _ _ _ _ _ => pts_nil) (fun _ _ _ _ _ => (pe_fo F_law_between (hr.mono (by decide)) (by rfl) (pa_cons (pe_slice (r := rSlL K) sl_list (pv 1) po_none (po_some (pv 3))) (pa_cons (pv 2) pa_nil))))) pa_nil)) (nomark _)) (pss_one (ps_ret pe_bl)) pss_nil)))
     (pss_one (ps_ret pe_bl))))), fun σ Q en q => ?_⟩
  obtain ⟨ps, v⟩ := i
  have hp : ps.Nodup ∧ ps.length ≤ 100 ∧ (∀ a ∈ ps, a.natAbs < 2 ^ 65) ∧ v.length ≤ 200 ∧ (∀ a ∈ v, a.natAbs < 2 ^ 67) := hp
  have hz1 : z0 + (0 : Nat) ≤ 2 ^ 50 := hz
  have n := Nx.refl at0
  obtain ⟨nd, h100, sm, vl, vs⟩ := hp
  refine q_iteS at0 n en (tt_or (tt_notD (tt_B (ty_isi .list (ty_var (x := v) rfl).dat))) fun hb => (tt_test (ty_neI (ty_len (ty_var (x := v) rfl)) (ty_len (ty_var (x := ps) rfl))))) (by omega) (fun h0 z' B' H' s n en => ?_) (fun h0 z' B' H' s n en => ?_)
  · have np : ¬ v.Perm ps := fun h => by
      rw [h.length_eq] at h0
      simp [tois_list] at h0
    refine q_ret at0 n en ty_b (by omega) fun x v z' B' H' e n h => q x v z' B' H' ?_ (n.le (by show _ ≤ 0; omega)) h
    exact e.trans (goodL_perm np).symm
  · have ll : v.length = ps.length := len_eq h0
    refine q_forLS at0 n en (cb := 0) (ty_var (x := v) rfl) (by omega) (fun k Γ B H => ∃ (o2 o3 o4 : Option VP), Γ = [some (Py.is (ps : (List Int))), some (Py.is (v : (List Int))), o2, o3, o4] ∧ (∀ x ∈ v.take k, x ∈ ps ∧ (v.filter fun o => decide (o = x)).length ≤ 1)) (fun z' B' H' s en => ⟨_, _, _, rfl, fun x h => by rw [List.take_zero] at h; cases h⟩) (fun _ _ _ _ _ h _ => h) (fun Bs k place Γ' z' B' H' σ' hx inv eb n en => ?_) fun Γ' z' B' H' σ' inv eb2 n en => ?_
    · obtain ⟨o2, o3, o4, rfl, inv⟩ := inv
      skip
      refine q_ite at0 n en (tt_or (tt_notD (tt_B (ty_isi .int (ty_var (x := place) rfl).dat))) fun hb => (tt_or (tt_B (ty_isi .bool (ty_var (x := place) rfl).dat)) fun hb => (tt_or (tt_test (ty_notIn (ty_var (x := place) rfl) (ty_var (x := ps) rfl))) fun hb => (tt_test (ty_B0 (p := fun a b => decide (b < a)) (ty_len (ty_lcL (p := fun other : Int => decide (other = place)) (f := (fun other : Int => (1 : Int))) (ty_var (x := v) rfl) (by omega) (by simp) (fun other h_other => (tt_test (ty_eqI (ty_var (x := other) rfl) (ty_var (x := place) rfl)))) fun other h_other hp_other => ty_i)) ty_i))))) (by omega) (fun h1 z' B' H' s n en => ?_) (fun h1 z' B' H' s n en => ?_)
      · have eb := eb.trans s.up
        have np := bad_item nd (List.mem_of_getElem? hx) h1
        refine q_ret at0 n en ty_b (by omega) fun x v z' B' H' e n h => q x v z' B' H' ?_ (n.le (by show _ ≤ 0; omega)) h
        exact e.trans (goodL_perm np).symm
      · have eb := eb.trans s.up
        have gi := good_item h1
        exact ⟨_, z', B', ⟨_, _, _, rfl, items_step hx inv gi⟩, eb, n.le (by omega), en⟩
    · obtain ⟨o2, o3, o4, rfl, inv⟩ := inv
      have pm : v.Perm ps := perm_items nd ll (by rw [List.take_length] at inv; exact inv)
      refine q_for2S at0 n en (cb := 0) ty_i (ty_len (ty_var (x := v) rfl)) ⟨by omega, by omega, by omega, by omega⟩ (by omega) (fun k2 Γ B H => ∃ (o2 o3 o4 : Option VP), Γ = [some (Py.is (ps : (List Int))), some (Py.is (v : (List Int))), o2, o3, o4] ∧ (∀ m, m < 1 + k2 → goodAt v m)) (fun z' B' H' s en => ⟨_, _, _, rfl, fun m h => by rw [show m = 0 by omega]; exact good_zero⟩) (fun _ _ _ _ _ h _ => h) (fun Bs k2  Γ' z' B' H' σ' hk inv eb n en => ?_) fun Γ' z' B' H' σ' inv eb2 n en => ?_
      · obtain ⟨o2, o3, o4, rfl, inv⟩ := inv
        have kv : 1 + k2 < v.length := by omega
        refine q_ite at0 n en (tt_test (ty_neI (z__law_between (ty_sl (ty_var (x := v) rfl) to_none (to_some (ty_var (x := ((1 : Int) + (k2 : Int))) rfl))) (ty_ixD 0 (ty_var (x := v) rfl) (ty_var (x := ((1 : Int) + (k2 : Int))) rfl) ⟨by omega, by omega⟩) (twos_pre vl vs (at_mem kv))) (ty_minD (ty_lcM (f := (fun place2 : Int => twosTo place2 ((cutL v none (some (((1 : Int) + (k2 : Int)))))))) (ty_sl (ty_var (x := v) rfl) (to_some (ty_var (x := ((1 : Int) + (k2 : Int))) rfl)) to_none) (by have := cutL_len v (some ((1 : Int) + (k2 : Int))) none; omega) (by simp) fun place2 h_place2 => (z__law_between (ty_sl (ty_var (x := v) rfl) to_none (to_some (ty_var (x := ((1 : Int) + (k2 : Int))) rfl))) (ty_var (x := place2) rfl) (twos_pre vl vs (cut_mem h_place2)))) (cut_ne kv)))) (by omega) (fun h2 z' B' H' s n en => ?_) (fun h2 z' B' H' s n en => ?_)
        · have eb := eb.trans s.up
          have bad := bad_many kv h2 ps
          refine q_ret at0 n en ty_b (by omega) fun x v z' B' H' e n h => q x v z' B' H' ?_ (n.le (by show _ ≤ 0; omega)) h
          exact e.trans bad.symm
        · have eb := eb.trans s.up
          have gk := good_many kv h2
          exact ⟨_, z', B', ⟨_, _, _, rfl, many_step inv gk⟩, eb, n.le (by omega), en⟩
      · obtain ⟨o2, o3, o4, rfl, inv⟩ := inv
        refine q_ret at0 n en ty_b (by omega) fun x v z' B' H' e n h => q x v z' B' H' ?_ (n.le (by show _ ≤ 0; omega)) h
        exact e.trans (goodL_yes pm fun m h => inv m (by omega)).symm
theorem ok_judge_none {f : Addr} {fd : FuncData} (F : Df K "_law_is_good" "_law_is_good" s_law_is_good [] f fd) (T : TN mg)  (F_law_between : Fo P w K mg base "_law_between" 2 ["_law_row", "_law_place"] cBetw5.sp) :
    FnOk P w K mg base CX0 3 f fd ["_law_places_here", "_law_value"] cLawGoodB.sp := by
  refine con_go F sc_law_is_good cLawGoodB (fun _ => rfl) fun cdv A outer s H E i G z0 B0 hr hp at0 hz => ⟨_, (pss_cons (ps_if (PW.pt (pw_or (pt_not (pt_val (pe_callB (r := rIsi K) call_isi (by rfl) T.b_isinstance (by decide +kernel) (pa_cons (pv 1) (pa_cons (pe_bltn (v := .ty "list") (by rfl) T.b_list (by decide +kernel) rfl) pa_nil))))) (pw_or1 (pt_cmpR op_ne (pe_callB (r := rLenS K) call_len_seq (by rfl) T.b_len (by decide +kernel) (pa_cons (pv 1) pa_nil)) (pe_callB (r := rLenS K) call_len_seq (by rfl) T.b_len (by decide +kernel) (pa_cons (pv 0) pa_nil)) (nomark _))))) (pss_one (ps_ret pe_bl)) pss_nil)
     pss_never), fun σ Q en q => ?_⟩
  obtain ⟨ps, d⟩ := i
  have hp : d.isT .list = false := hp
  have hz1 : z0 + (0 : Nat) ≤ 2 ^ 50 := hz
  have n := Nx.refl at0
  have hodd : d.isT .list = false := hp
  refine q_iteS at0 n en (tt_or (c2 := 0) (b := false) (tt_notD (tt_B (ty_isi .list (ty_var (x := d) rfl)))) fun hb => absurd hb (by rw [hodd]; decide)) (by omega) (fun hb z' B' H' s n en => ?_) (fun hb z' B' H' s n en => ?_)
  · skip
    refine q_ret at0 n en ty_b (by omega) fun x v z' B' H' e n h => q x v z' B' H' ?_ (n.le (by show _ ≤ 0; omega)) h
    exact e
  · rw [hodd] at hb
    cases hb
theorem ok_judge_odd {f : Addr} {fd : FuncData} (F : Df K "_law_is_good" "_law_is_good" s_law_is_good [] f fd) (T : TN mg)  (F_law_between : Fo P w K mg base "_law_between" 2 ["_law_row", "_law_place"] cBetw5.sp) :
    FnOk P w K mg base CX0 3 f fd ["_law_places_here", "_law_value"] cLawGoodC.sp := by
  refine con_go F sc_law_is_good cLawGoodC (fun _ => rfl) fun cdv A outer s H E i G z0 B0 hr hp at0 hz => ⟨_, (pss_cons (ps_if (PW.pt (pw_or (pt_not (pt_val (pe_callB (r := rIsi K) call_isi (by rfl) T.b_isinstance (by decide +kernel) (pa_cons (pv 1) (pa_cons (pe_bltn (v := .ty "list") (by rfl) T.b_list (by decide +kernel) rfl) pa_nil))))) (pw_or1 (pt_cmpR op_ne (pe_callB (r := rLenS K) call_len_seq (by rfl) T.b_len (by decide +kernel) (pa_cons (pv 1) pa_nil)) (pe_callB (r := rLenS K) call_len_seq (by rfl) T.b_len (by decide +kernel) (pa_cons (pv 0) pa_nil)) (nomark _))))) (pss_one (ps_ret pe_bl)) pss_nil)
     (pss_cons (ps_for PassesOwn.never rfl (pi_listA (K := K) (pv 1)) (pg_name (i := 2) sc_law_is_good.nd rfl (.inr rfl))
      (pss_one (ps_if (PW.pt (pw_or (pt_not (pt_val (pe_callB (r := rIsi K) call_isi (by rfl) T.b_isinstance (by decide +kernel) (pa_cons (pv 2) (pa_cons (pe_bltn (v := .ty "int") (by rfl) T.b_int (by decide +kernel) rfl) pa_nil))))) (pw_or (pt_val (pe_callB (r := rIsi K) call_isi (by rfl) T.b_isinstance (by decide +kernel) (pa_cons (pv 2) (pa_cons (pe_bltn (v := .ty "bool") (by rfl) T.b_bool (by decide +kernel) rfl) pa_nil)))) (pw_or (pt_cmpR (r := rIn K true) op_notIn_seq (pv 2) (pv 0) (by rfl)) (pw_or1 (pt_cmpR op_gt (pe_callB (r := rLenS K) call_len_seq (by rfl) T.b_len (by decide +kernel) (pa_cons (pe_lc (own := [("_law_other", 4)]) rfl sc_law_is_good.nd (pi_listA (K := K) (pv 1)) (blkOk_by (own := [("_law_other", 4)]) (N := ["_law_places_here", "_law_value", "_law_place", "_law_many", "_law_other"]) (sc := defScope s_law_is_good) (by decide +kernel)) (fun _ _ _ _ _ => (pg_name (i := 4) sc_law_is_good.nd rfl (Or.inl rfl))) (fun _ _ _ _ _ => (pts_one (pt_cmpR (r := rEqD K) (op_eqD hr.units) (pv 4) (pv 2) (nomark _)))) (fun _ _ _ _ _ => pe_int)) pa_nil)) pe_int (nomark _))))))) (pss_one (ps_ret pe_bl)) pss_nil)))
     pss_never)), fun σ Q en q => ?_⟩
  obtain ⟨ps, ds⟩ := i
  have hp : ps.length ≤ 100 ∧ ds.length ≤ 200 ∧ (∀ d ∈ ds, Shp d) ∧ ∃ d ∈ ds, d.whole = false := hp
  have hz1 : z0 + (0 : Nat) ≤ 2 ^ 50 := hz
  have n := Nx.refl at0
  obtain ⟨h100, dl, hsh, dx, hdx, hbad⟩ := hp
  refine q_iteS at0 n en (tt_or (tt_notD (tt_B (ty_isi .list (ty_var (x := ds) rfl).datLst))) fun hb => (tt_test (ty_neI (ty_len (ty_var (x := ds) rfl)) (ty_len (ty_var (x := ps) rfl))))) (by omega) (fun h0 z' B' H' s n en => ?_) (fun h0 z' B' H' s n en => ?_)
  · refine q_ret at0 n en ty_b (by omega) fun x v z' B' H' e n h => q x v z' B' H' ?_ (n.le (by show _ ≤ 0; omega)) h
    exact e
  · refine q_forLS at0 n en (cb := 0) (ty_var (x := ds) rfl) (by omega) (fun k Γ B H => ∃ (o2 o3 o4 : Option VP), Γ = [some (Py.is (ps : (List Int))), some (Py.is (ds : (List Dat))), o2, o3, o4] ∧ (∀ x ∈ ds.take k, x.whole = true)) (fun z' B' H' s en => ⟨_, _, _, rfl, fun x h => by rw [List.take_zero] at h; cases h⟩) (fun _ _ _ _ _ h _ => h) (fun Bs k place Γ' z' B' H' σ' hx inv eb n en => ?_) fun Γ' z' B' H' σ' inv eb2 n en => ?_
    · obtain ⟨o2, o3, o4, rfl, inv⟩ := inv
      refine q_ite at0 n en (tt_or (tt_notD (tt_B (ty_isi .int (ty_var (x := place) rfl)))) fun hb1 => (tt_or (tt_B (ty_isi .bool (ty_var (x := place) rfl))) fun hb2 => (tt_or (tt_test (ty_notIn ((ty_var (x := place) rfl).intOf (whole_or hb1 hb2)) (ty_var (x := ps) rfl))) fun hb => (tt_test (ty_B0 (p := fun a b => decide (b < a)) (ty_len (ty_lcL (p := fun other : Dat => PyData.eqv (other).py ((DatOf.toD place.toI)).py) (f := (fun other : Dat => (1 : Int))) (ty_var (x := ds) rfl) (by omega) (by simp) (fun other h_other => (tt_test (ty_eqS' (ty_var (x := other) rfl) ((ty_var (x := place) rfl).intOf (whole_or hb1 hb2)).dat (hsh _ h_other) shp))) fun other h_other hp_other => ty_i)) ty_i))))) (by omega) (fun h1 z' B' H' s n en => ?_) (fun h1 z' B' H' s n en => ?_)
      · have eb := eb.trans s.up
        refine q_ret at0 n en ty_b (by omega) fun x v z' B' H' e n h => q x v z' B' H' ?_ (n.le (by show _ ≤ 0; omega)) h
        exact e
      · have eb := eb.trans s.up
        have gw := whole_not h1
        exact ⟨_, z', B', ⟨_, _, _, rfl, wholes_step hx inv gw⟩, eb, n.le (by omega), en⟩
    · obtain ⟨o2, o3, o4, rfl, inv⟩ := inv
      exfalso
      rw [List.take_length] at inv
      rw [inv dx hdx] at hbad
      cases hbad
end
end K05
set_option maxHeartbeats 4000000
namespace K05
open PySem PySem.Spec PyProof.Rows L2 AP Evl
def intsD : Dat → List Int
  | .lst ds => ds.map Dat.toI
  | _ => []
def goodD (ps : List Int) (d : Dat) : Bool := wholesB d && goodL ps (intsD d)
def Bent : Dat → Prop
  | .lst ds => ds.length ≤ 200 ∧ ∀ e ∈ ds, Shp e ∧ (e.whole = true → e.toI.natAbs < 2 ^ 67)
  | _ => True
theorem Bent.small {d : Dat} (h : Bent d) : d.small := by
  cases d with
  | lst ds => have := h.1; show ds.length ≤ 30000; omega
  | _ => trivial
theorem whole_all : ∀ {ds : List Dat}, ds.all Dat.whole = true → ds = (ds.map Dat.toI).map Dat.int
  | [], _ => rfl
  | d :: ds, h => by
    rw [List.all_cons, Bool.and_eq_true] at h
    rw [List.map_cons, List.map_cons, ← whole_all h.2]
    cases d with
    | int n => rfl
    | _ => cases h.1
theorem wholes_lst {d : Dat} (h : wholesB d = true) : d = .lst ((intsD d).map Dat.int) := by
  cases d with
  | lst ds => exact congrArg Dat.lst (whole_all h)
  | _ => cases h
theorem goodD_ints {ps : List Int} {d : Dat} (h : wholesB d = true) : goodD ps d = goodL ps (intsD d) := by unfold goodD; rw [h]; rfl
theorem goodD_odd {ps : List Int} {d : Dat} (h : wholesB d = false) : goodD ps d = false := by unfold goodD; rw [h]; rfl
theorem ints_of {d : Dat} {v : V} {B : Hp} (h : wholesB d = true) (hv : Py.is d v B) : Py.is (intsD d) v B := by
  have hv : Py.is (Dat.lst ((intsD d).map Dat.int)) v B := by rw [← wholes_lst h]; exact hv
  exact dats_ints (lst_dat hv)
theorem ints_len {d : Dat} (h : wholesB d = true) (sm : d.small) : (intsD d).length ≤ 30000 := by
  have sm : (Dat.lst ((intsD d).map Dat.int)).small := by rw [← wholes_lst h]; exact sm
  have sm : ((intsD d).map Dat.int).length ≤ 30000 := sm
  rwa [List.length_map] at sm
theorem Bent.ints {d : Dat} (h : wholesB d = true) (b : Bent d) : (intsD d).length ≤ 200 ∧ ∀ a ∈ intsD d, a.natAbs < 2 ^ 67 := by
  have b : Bent (Dat.lst ((intsD d).map Dat.int)) := by rw [← wholes_lst h]; exact b
  obtain ⟨b1, b2⟩ := b
  rw [List.length_map] at b1
  exact ⟨b1, fun a ha => (b2 (.int a) (List.mem_map.mpr ⟨a, ha, rfl⟩)).2 rfl⟩
theorem odd_lst {d : Dat} (h : wholesB d = false) (hl : d.isT .list = true) : ∃ ds, d = .lst ds ∧ ∃ e ∈ ds, e.whole = false := by
  cases d with
  | lst ds =>
    have h : ds.all Dat.whole = false := h
    obtain ⟨e, he, hw⟩ := List.all_eq_false.mp h
    exact ⟨ds, rfl, e, he, by simpa using hw⟩
  | _ => cases hl
def It (e : Dat) : Prop := Shp e ∧ (e.whole = true → e.toI.natAbs < 2 ^ 67)
theorem it_int {n : Int} (h : n.natAbs < 2 ^ 67) : It (.int n) := ⟨⟨rfl, rfl, Nat.zero_le _⟩, fun _ => h⟩
theorem it_non : It .non := ⟨⟨rfl, rfl, Nat.zero_le _⟩, fun h => by cases h⟩
theorem it_true : It (DatOf.toD true) := ⟨⟨rfl, rfl, Nat.zero_le _⟩, fun h => by cases h⟩
theorem it_list (l : List Int) : It (DatOf.toD l) := ⟨shp (by decide), fun h => by cases h⟩
theorem bent_dats {ds : List Dat} (hl : ds.length ≤ 200) (h : ∀ e ∈ ds, It e) : Bent (.lst ds) := ⟨hl, h⟩
theorem bent_ints {l : List Int} (hl : l.length ≤ 200) (h : ∀ x ∈ l, x.natAbs < 2 ^ 67) : Bent (DatOf.toD l) :=
  ⟨by show (l.map _).length ≤ 200; rw [List.length_map]; exact hl, fun e he => by
    obtain ⟨x, hx, rfl⟩ := List.mem_map.mp he
    exact it_int (h x hx)⟩
theorem bent_mid {a b : List Int} {e : Dat} (hl : a.length + b.length ≤ 199) (ha : ∀ x ∈ a, x.natAbs < 2 ^ 67) (he : It e) (hb : ∀ x ∈ b, x.natAbs < 2 ^ 67) : Bent (.lst ((a.map Dat.int ++ [e]) ++ b.map Dat.int)) := by
  refine bent_dats (by simp only [List.length_append, List.length_map, List.length_cons, List.length_nil]; omega) fun d hd => ?_
  rcases List.mem_append.mp hd with q | q
  · rcases List.mem_append.mp q with q | q
    · obtain ⟨x, hx, rfl⟩ := List.mem_map.mp q
      exact it_int (ha x hx)
    · rw [List.mem_singleton.mp q]; exact he
  · obtain ⟨x, hx, rfl⟩ := List.mem_map.mp q
    exact it_int (hb x hx)
theorem bent_end {a : List Int} {e : Dat} (hl : a.length ≤ 199) (ha : ∀ x ∈ a, x.natAbs < 2 ^ 67) (he : It e) : Bent (.lst (a.map Dat.int ++ [e])) := by
  have := bent_mid (b := []) (by simpa using hl) ha he (fun x h => nomatch h)
  rwa [List.map_nil, List.append_nil] at this
theorem bent_midi {a b : List Int} {n : Int} (hl : a.length + b.length ≤ 199) (ha : ∀ x ∈ a, x.natAbs < 2 ^ 67) (hn : n.natAbs < 2 ^ 67) (hb : ∀ x ∈ b, x.natAbs < 2 ^ 67) : Bent (DatOf.toD ((a ++ [n]) ++ b)) :=
  bent_ints (by simp only [List.length_append, List.length_cons, List.length_nil]; omega) fun x hx => (List.mem_append.mp hx).elim (all_snoc5 ha hn x) (hb x)
theorem bent_one {l : List Int} : Bent (DatOf.toD [l]) := bent_dats (ds := [DatOf.toD l]) (by simp) fun e he => by rw [List.mem_singleton.mp he]; exact it_list l
theorem lt67 {n : Int} (h : n.natAbs < 2 ^ 65) : n.natAbs < 2 ^ 67 := Nat.lt_trans h (by decide)
theorem up67 {n : Int} (h : n.natAbs < 2 ^ 65) : (n + 1).natAbs < 2 ^ 67 := by
  have e : (2 : Nat) ^ 67 = 4 * 2 ^ 65 := by decide
  omega
theorem at_small {od : List Int} {i : Int} (os : ∀ a ∈ od, a.natAbs < 2 ^ 65) : (od.getD i.toNat 0).natAbs < 2 ^ 65 := by
  rw [List.getD_eq_getElem?_getD]
  cases h : od[i.toNat]? with
  | none => decide
  | some x => exact os x (List.mem_of_getElem? h)
theorem max_mem {od : List Int} (h : 0 < od.length) : maxI od ∈ od := (maxI_ok (List.length_pos_iff.mp h)).1
theorem set_small {l : List Int} {i : Nat} {x : Int} {k : Nat} (h : ∀ a ∈ l, a.natAbs < k) (hx : x.natAbs < k) : ∀ a ∈ l.set i x, a.natAbs < k := fun a ha => by
  rcases List.mem_or_eq_of_mem_set ha with q | q
  · exact h a q
  · rw [q]; exact hx
section
variable {G : Option Addr} {c0 c1 c2 c3 c4 c5 c6 c7 : Nat} {t0 t1 t2 t3 t4 t5 t6 t7 : TE} {Γ : AP.Ctx} {g : Addr}
def cGoodD : AP.Con (Int × (List Int) × Dat) Bool := ⟨fun i => [Py.is i.1, Py.is i.2.1, Py.is i.2.2], fun i G => wOk i.1 ∧ Places i.1 i.2.1 ∧ i.2.2.small, fun _ => 0, fun i r => r = goodD i.2.1 i.2.2⟩
theorem zD_is_good_order {wd : Int} {ps : (List Int)} {d : Dat} {E : XK} (h0 : AP.Ty G c0 t0 Γ (· = wd)) (h1 : AP.Ty G c1 t1 Γ (· = ps)) (h2 : AP.Ty G c2 t2 Γ (· = d)) (hpre : wOk wd ∧ Places wd ps ∧ d.small) : AP.Ty G ((c0 + (c1 + (c2 + 0))) + 0) (tCall cGoodD.sp [] E (tCons t0 (tCons t1 (tCons t2 tNil)))) Γ (· = goodD ps d) := ty_call (C := cGoodD) (wd, ps, d) (ta_cons h0 (ta_cons h1 (ta_cons h2 ta_nil))) hpre
theorem zkD_is_good_order {wd : Int} {ps : (List Int)} {d : Dat} {E : XK} (h0 : AP.Ty G c0 t0 Γ (· = wd)) (h1 : AP.Ty G c1 t1 Γ (· = ps)) (h2 : AP.Ty G c2 t2 Γ (· = d)) (hpre : wOk wd ∧ Places wd ps ∧ d.small) : AP.Ty G (0 + (c2 + (c1 + (c0 + 0))) + 0) (tCallK cGoodD.sp (fun _ ks => ks.reverse) E tNil (tCons t2 (tCons t1 (tCons t0 tNil)))) Γ (· = goodD ps d) := ty_callR (C := cGoodD) (wd, ps, d) (ta_cons h2 (ta_cons h1 (ta_cons h0 ta_nil))) hpre
def cJudgeD : AP.Con ((List Int) × Dat) Bool := ⟨fun i => [Py.is i.1, Py.is i.2], fun i G => i.1.Nodup ∧ i.1.length ≤ 100 ∧ (∀ a ∈ i.1, a.natAbs < 2 ^ 65) ∧ Bent i.2, fun _ => 0, fun i r => r = goodD i.1 i.2⟩
theorem z__law_is_good {ps : (List Int)} {d : Dat} {E : XK} (h0 : AP.Ty G c0 t0 Γ (· = ps)) (h1 : AP.Ty G c1 t1 Γ (· = d)) (hpre : ps.Nodup ∧ ps.length ≤ 100 ∧ (∀ a ∈ ps, a.natAbs < 2 ^ 65) ∧ Bent d) : AP.Ty G ((c0 + (c1 + 0)) + 0) (tCall cJudgeD.sp [] E (tCons t0 (tCons t1 tNil))) Γ (· = goodD ps d) := ty_call (C := cJudgeD) (ps, d) (ta_cons h0 (ta_cons h1 ta_nil)) hpre
def cBent5 : AP.Con (Addr × (List Int)) (List Dat) := ⟨fun i => [Py.is (GenR.mk i.1), Py.is i.2], fun i G => G = some i.1 ∧ (0 < i.2.length ∧ i.2.length ≤ 90 ∧ (∀ a ∈ i.2, a.natAbs < 2 ^ 65)), fun _ => 600, fun i r => r.length = 22 ∧ ∀ d ∈ r, Bent d⟩
theorem z__law_bent {od : (List Int)} {E : XK} (h0 : AP.Ty (some g) c0 t0 Γ (· = GenR.mk g)) (h1 : AP.Ty (some g) c1 t1 Γ (· = od)) (hpre : 0 < od.length ∧ od.length ≤ 90 ∧ (∀ a ∈ od, a.natAbs < 2 ^ 65)) : AP.Ty (some g) ((c0 + (c1 + 0)) + 600) (tCall cBent5.sp [] E (tCons t0 (tCons t1 tNil))) Γ (fun r : (List Dat) => r.length = 22 ∧ ∀ d ∈ r, Bent d) := ty_call (C := cBent5) (g, od) (ta_cons h0 (ta_cons h1 ta_nil)) ⟨rfl, hpre⟩
end
section
variable {P : Program} {w : World} {K : PySem.W.Frag} {mg : Str → Option Value} {base : Heap}
theorem ok_is_good_order {f : Addr} {fd : FuncData} (F : Df K "is_good_order" "is_good_order" sis_good_order [] f fd) (T : TN mg) (Fneed_width : Fo P w K mg base "need_width" 4 ["width"] cNeedWidth.sp) (Fneed_places : Fo P w K mg base "need_places" 6 ["width", "places"] cNeedPlaces.sp) (Fcosts_at_first : Fo P w K mg base "costs_at_first" 1 ["places"] cCosts0.sp) (Fcosts_behind : Fo P w K mg base "costs_behind" 2 ["costs", "taken"] cBehind.sp) (Fare_wholes : Fo P w K mg base "are_wholes" 2 ["value"] cAreWholes.sp) :
    FnOk P w K mg base CX0 7 f fd ["width", "places", "value"] cGoodD.sp :=
  con_or (ok_good_ints F T Fneed_width Fneed_places Fcosts_at_first Fcosts_behind Fare_wholes) (ok_good_odd F T Fneed_width Fneed_places Fcosts_at_first Fcosts_behind Fare_wholes) fun ⟨wd, ps, d⟩ G vs B hp al => match vs, al with
    | [v0, v1, v2], .cons s0 h0 (.cons s1 h1 (.cons s2 h2 .nil)) => by
      obtain ⟨hw, hpl, sm⟩ := hp
      cases h : wholesB d with
      | true => exact .inl ⟨(wd, ps, intsD d), .cons s0 h0 (.cons s1 h1 (.cons (Py.stays _) (ints_of h h2) .nil)), ⟨hw, hpl, ints_len h sm⟩, Nat.le_refl _, fun y e => e.trans (goodD_ints h).symm⟩
      | false => exact .inr ⟨(wd, ps, d), .cons s0 h0 (.cons s1 h1 (.cons s2 h2 .nil)), ⟨hw, hpl, sm, h⟩, Nat.le_refl _, fun y e => e.trans (goodD_odd h).symm⟩
theorem ok_law_is_good {f : Addr} {fd : FuncData} (F : Df K "_law_is_good" "_law_is_good" s_law_is_good [] f fd) (T : TN mg) (F_law_between : Fo P w K mg base "_law_between" 2 ["_law_row", "_law_place"] cBetw5.sp) :
    FnOk P w K mg base CX0 3 f fd ["_law_places_here", "_law_value"] cJudgeD.sp :=
  con_or3 (ok_judge_ints F T F_law_between) (ok_judge_none F T F_law_between) (ok_judge_odd F T F_law_between) fun ⟨ps, d⟩ G vs B hp al => match vs, al with
    | [v0, v1], .cons s0 h0 (.cons s1 h1 .nil) => by
      obtain ⟨nd, h100, sm, hb⟩ := hp
      cases h : wholesB d with
      | true => exact .inl ⟨(ps, intsD d), .cons s0 h0 (.cons (Py.stays _) (ints_of h h1) .nil), ⟨nd, h100, sm, (hb.ints h).1, (hb.ints h).2⟩, Nat.le_refl _, fun y e => e.trans (goodD_ints h).symm⟩
      | false =>
        cases hl : d.isT .list with
        | false => exact .inr (.inl ⟨(ps, d), .cons s0 h0 (.cons s1 h1 .nil), hl, Nat.le_refl _, fun y e => e.trans (goodD_odd h).symm⟩)
        | true =>
          obtain ⟨ds, rfl, ho⟩ := odd_lst h hl
          exact .inr (.inr ⟨(ps, ds), .cons s0 h0 (.cons (Py.stays _) (lst_dat h1) .nil), ⟨h100, hb.1, fun e he => (hb.2 e he).1, ho⟩, Nat.le_refl _, fun y e => e.trans (goodD_odd h).symm⟩)
end
section
variable {P : Program} {w : World} {K : PySem.W.Frag} {mg : Str → Option Value} {base : Heap}
abbrev s_law_bent : Stmt := topS 39
theorem sc_law_bent : FnScope ["_law_generator_here", "_law_order", "_law_at", "_law_to", "_law_found", "_law_swapped"] ["_law_generator_here", "_law_order"] (defScope s_law_bent) := ⟨rfl, rfl, rfl, by decide +kernel, rfl, by decide +kernel, by decide +kernel⟩
theorem ok_law_bent {f : Addr} {fd : FuncData} (F : Df K "_law_bent" "_law_bent" s_law_bent [] f fd) (T : TN mg)  (F_law_random : Fo P w K mg base "_law_random" 2 ["_law_generator_here", "_law_limit"] cRandom.sp) :
    FnOk P w K mg base CX0 3 f fd ["_law_generator_here", "_law_order"] cBent5.sp := by
  refine con_go F sc_law_bent cBent5 (fun _ => rfl) fun cdv A outer s H E i G z0 B0 hr hp at0 hz => ⟨_, (pss_cons (ps_par (i := 2) (j := 3) rfl sc_law_bent.nd rfl rfl (by decide) rfl rfl (pa_cons (pe_fo F_law_random (hr.mono (by decide)) (by rfl) (pa_cons (pv 0) (pa_cons (pe_callB (r := rLenS K) call_len_seq (by rfl) T.b_len (by decide +kernel) (pa_cons (pv 1) pa_nil)) pa_nil))) (pa_cons (pe_fo F_law_random (hr.mono (by decide)) (by rfl) (pa_cons (pv 0) (pa_cons (pe_callB (r := rLenS K) call_len_seq (by rfl) T.b_len (by decide +kernel) (pa_cons (pv 1) pa_nil)) pa_nil))) pa_nil)) (by rfl))
     (pss_cons (ps_set (i := 4) sc_law_bent.nd rfl (.inl rfl) (pe_lst (pa_cons (pe_revU (pv 1) (pe_un un_neg pe_int)) (pa_cons (pe_slice (r := rSlL K) sl_list (pv 1) (po_some pe_int) po_none) (pa_cons (pe_op op_cat (pv 1) (pe_lst (pa_cons (pe_ix (r := rIxL K) ix_list (pv 1) (pv 2) (fun _ _ => rfl)) pa_nil))) (pa_cons (pe_callTy (r := rTupOf K) call_tuple_of (by rfl) T.b_tuple (by decide +kernel) (pa_cons (pv 1) pa_nil)) (pa_cons pe_non (pa_cons (pe_lst pa_nil) (pa_cons pe_dnewK (pa_cons (pe_op op_cat (pe_op op_cat (pe_slice (r := rSlL K) sl_list (pv 1) po_none (po_some (pv 2))) (pe_lst (pa_cons pe_non pa_nil))) (pe_slice (r := rSlL K) sl_list (pv 1) (po_some (pe_op op_add (pv 2) pe_int)) po_none)) pa_nil))))))))))
     (pss_cons (ps_set (i := 4) sc_law_bent.nd rfl (.inl rfl) (pe_op op_cat (pv 4) (pe_lst (pa_cons (pe_op op_cat (pv 1) (pe_lst (pa_cons (pe_op op_add (pe_ix (r := rIxL K) ix_list (pv 1) (pv 2) (fun _ _ => rfl)) pe_int) pa_nil))) (pa_cons (pe_op op_cat (pe_op op_cat (pe_slice (r := rSlL K) sl_list (pv 1) po_none (po_some (pv 2))) (pe_lst (pa_cons (pe_op op_add (pe_callB (r := rMax K) (cr_max rfl) (by rfl) T.b_max (by decide +kernel) (pa_cons (pv 1) pa_nil)) pe_int) pa_nil))) (pe_slice (r := rSlL K) sl_list (pv 1) (po_some (pv 2)) po_none)) (pa_cons (pe_op op_cat (pv 1) (pe_lst (pa_cons pe_non pa_nil))) (pa_cons (pe_op op_cat (pe_op op_cat (pe_slice (r := rSlL K) sl_list (pv 1) po_none (po_some (pv 2))) (pe_lst (pa_cons (pe_lst pa_nil) pa_nil))) (pe_slice (r := rSlL K) sl_list (pv 1) (po_some (pv 2)) po_none)) pa_nil)))))))
     (pss_cons (ps_expr (pe_bm PySem.F.plainAttrs_list PySem.F.slot_list_append PySem.F.type_list_append mt_append (pv 4) (pa_cons (pe_op op_cat (pe_op op_cat (pe_slice (r := rSlL K) sl_list (pv 1) po_none (po_some (pv 2))) (pe_lst (pa_cons (pe_un un_neg pe_int) pa_nil))) (pe_slice (r := rSlL K) sl_list (pv 1) (po_some (pe_op op_add (pv 2) pe_int)) po_none)) pa_nil)))
     (pss_cons (ps_set (i := 5) sc_law_bent.nd rfl (.inl rfl) (pe_callTy (r := rListS K) call_list_of (by rfl) T.b_list (by decide +kernel) (pa_cons (pv 1) pa_nil)))
     (pss_cons (ps_asg (pe_tup (pa_cons (pe_ix (r := rIxL K) ix_list (pv 5) (pv 3) (fun _ _ => rfl)) (pa_cons (pe_ix (r := rIxL K) ix_list (pv 5) (pv 2) (fun _ _ => rfl)) pa_nil))) (pg_tup rfl (pgs_cons (pg_sub (pv 5) (pv 2) set_list) (pgs_cons (pg_sub (pv 5) (pv 3) set_list) pgs_nil))))
     (pss_cons (ps_set (i := 4) sc_law_bent.nd rfl (.inl rfl) (pe_op op_cat (pv 4) (pe_lst (pa_cons (pv 5) (pa_cons (pe_op op_cat (pe_op op_cat (pe_slice (r := rSlL K) sl_list (pv 1) po_none (po_some (pv 2))) (pe_lst (pa_cons pe_bl pa_nil))) (pe_slice (r := rSlL K) sl_list (pv 1) (po_some (pe_op op_add (pv 2) pe_int)) po_none)) (pa_cons (pe_op op_cat (pe_op op_cat (pe_slice (r := rSlL K) sl_list (pv 1) po_none (po_some (pv 2))) (pe_lst (pa_cons (pe_lst (pa_cons (pe_ix (r := rIxL K) ix_list (pv 1) (pv 2) (fun _ _ => rfl)) pa_nil)) pa_nil))) (pe_slice (r := rSlL K) sl_list (pv 1) (po_some (pe_op op_add (pv 2) pe_int)) po_none)) (pa_cons (pe_lst (pa_cons (pv 1) pa_nil)) pa_nil)))))))
     (pss_one (ps_ret (pe_op op_cat (pv 4) (pe_lst (pa_cons (pe_op op_cat (pe_slice (r := rSlL K) sl_list (pv 1) (po_some (pv 2)) po_none) (pe_slice (r := rSlL K) sl_list (pv 1) po_none (po_some (pv 2)))) (pa_cons (pe_callB (r := rSortedI K) cr_sortedI (by rfl) T.b_sorted (by decide +kernel) (pa_cons (pv 1) pa_nil)) (pa_cons (pe_op op_cat (pe_op op_cat (pe_slice (r := rSlL K) sl_list (pv 1) po_none (po_some (pv 2))) (pe_lst (pa_cons (pe_op op_add (pe_ix (r := rIxL K) ix_list (pv 1) (pv 2) (fun _ _ => rfl)) pe_int) pa_nil))) (pe_slice (r := rSlL K) sl_list (pv 1) (po_some (pe_op op_add (pv 2) pe_int)) po_none)) (pa_cons pe_str (pa_cons (pe_ix (r := rIxL K) ix_list (pv 1) (pv 2) (fun _ _ => rfl)) pa_nil)))))))))))))))), fun σ Q en q => ?_⟩
  obtain ⟨g, od⟩ := i
  obtain ⟨eG, hp⟩ := hp
  subst eG
  have hp : 0 < od.length ∧ od.length ≤ 90 ∧ (∀ a ∈ od, a.natAbs < 2 ^ 65) := hp
  have hz1 : z0 + (600 : Nat) ≤ 2 ^ 50 := hz
  have n := Nx.refl at0
  obtain ⟨op, ol, os⟩ := hp
  refine q_par at0 n en (i := 2) (j := 3) (z__law_random (ty_var (x := GenR.mk g) rfl) (ty_len (ty_var (x := od) rfl)) (small_b (by omega) (Int.le_trans (b := 100) (by omega) (by decide)))) (z__law_random (ty_var (x := GenR.mk g) rfl) (ty_len (ty_var (x := od) rfl)) (small_b (by omega) (Int.le_trans (b := 100) (by omega) (by decide)))) (by omega) fun at_ to z' B' H' σ' e_at_ e_to s n en => ?_
  have pat : 0 ≤ at_ ∧ at_ < ((od.length : Nat) : Int) := e_at_
  have pto : 0 ≤ to ∧ to < ((od.length : Nat) : Int) := e_to
  have c1 := cutL_len od none (some at_)
  have c2 := cutL_len od (some (at_ + (1 : Int))) none
  have c3 := cutL_len od (some at_) none
  have c4 := cutL_len od (some (1 : Int)) none
  refine q_asgS at0 n en (i := 4) (ty_lit (tl_cons (ty_revS (ty_var (x := od) rfl) (ty_neg ty_i)).dat (tl_cons (ty_sl (ty_var (x := od) rfl) (to_some ty_i) to_none).dat (tl_cons (ty_cat (ty_var (x := od) rfl) (ty_lit (tl_cons (ty_ixD 0 (ty_var (x := od) rfl) (ty_var (x := at_) rfl) ⟨by omega, by omega⟩) tl_nil) (by simp)) (by first | omega | (simp only [List.length_append, List.length_map, List.length_cons, List.length_nil]; omega))).dat (tl_cons (ty_tupI (ty_var (x := od) rfl)).dat (tl_cons ty_n.datNon (tl_cons (ty_nil (α := Int)).dat (tl_cons ty_dnew (tl_cons (ty_cat (ty_cat (ty_sl (ty_var (x := od) rfl) to_none (to_some (ty_var (x := at_) rfl))).intsD (ty_lit (tl_cons ty_n.datNon tl_nil) (by simp)) (by first | omega | (simp only [List.length_append, List.length_map, List.length_cons, List.length_nil]; omega))) (ty_sl (ty_var (x := od) rfl) (to_some (ty_I0 (f := fun a b => a + b) (ty_var (x := at_) rfl) ty_i)) to_none).intsD (by first | omega | (simp only [List.length_append, List.length_map, List.length_cons, List.length_nil]; omega))).datLst tl_nil)))))))) (by simp)) (by omega) fun found z' B' H' σ' e_found s n en => ?_
  refine q_catS at0 n en (i := 4) (ty_var (x := found) rfl) (ty_lit (tl_cons (ty_cat (ty_var (x := od) rfl) (ty_lit (tl_cons (ty_I0 (f := fun a b => a + b) (ty_ixD 0 (ty_var (x := od) rfl) (ty_var (x := at_) rfl) ⟨by omega, by omega⟩) ty_i) tl_nil) (by simp)) (by first | omega | (simp only [List.length_append, List.length_map, List.length_cons, List.length_nil]; omega))).dat (tl_cons (ty_cat (ty_cat (ty_sl (ty_var (x := od) rfl) to_none (to_some (ty_var (x := at_) rfl))) (ty_lit (tl_cons (ty_I0 (f := fun a b => a + b) (ty_maxD (ty_var (x := od) rfl) (List.length_pos_iff.mp op)) ty_i) tl_nil) (by simp)) (by first | omega | (simp only [List.length_append, List.length_map, List.length_cons, List.length_nil]; omega))) (ty_sl (ty_var (x := od) rfl) (to_some (ty_var (x := at_) rfl)) to_none) (by first | omega | (simp only [List.length_append, List.length_map, List.length_cons, List.length_nil]; omega))).dat (tl_cons (ty_cat (ty_var (x := od) rfl).intsD (ty_lit (tl_cons ty_n.datNon tl_nil) (by simp)) (by first | omega | (simp only [List.length_append, List.length_map, List.length_cons, List.length_nil]; omega))).datLst (tl_cons (ty_cat (ty_cat (ty_sl (ty_var (x := od) rfl) to_none (to_some (ty_var (x := at_) rfl))).intsD (ty_lit (tl_cons (ty_nil (α := Int)).dat tl_nil) (by simp)) (by first | omega | (simp only [List.length_append, List.length_map, List.length_cons, List.length_nil]; omega))) (ty_sl (ty_var (x := od) rfl) (to_some (ty_var (x := at_) rfl)) to_none).intsD (by first | omega | (simp only [List.length_append, List.length_map, List.length_cons, List.length_nil]; omega))).datLst tl_nil)))) (by simp)) (by rw [e_found]; show 8 + 4 ≤ 100000; decide) (by omega) fun us_found2 l_found2 z' B' H' σ' hn_found2 n en nl_found2 n0_found2 ea_found2 s => ?_
  have gl_found2 := at0.ne n0_found2
  have hl_found2 : upd H' l_found2 (HO.lst us_found2) l_found2 = some (.lst us_found2) := upd_same
  refine q_appS at0 n en (k := 4) rfl hl_found2 nl_found2 n0_found2 (by rw [ea_found2.len, e_found]; show 12 < 100000; decide) (ty_cat (ty_cat (ty_sl (ty_var (x := od) rfl) to_none (to_some (ty_var (x := at_) rfl))) (ty_lit (tl_cons (ty_neg ty_i) tl_nil) (by simp)) (by first | omega | (simp only [List.length_append, List.length_map, List.length_cons, List.length_nil]; omega))) (ty_sl (ty_var (x := od) rfl) (to_some (ty_I0 (f := fun a b => a + b) (ty_var (x := at_) rfl) ty_i)) to_none) (by first | omega | (simp only [List.length_append, List.length_map, List.length_cons, List.length_nil]; omega))).dat (by omega) fun y v_found2_y z' B' H' e_y hv_found2 up n en hl_found2 nl_found2 keep new => ?_
  have ea_found2 := (ea_found2.ex up).snoc hv_found2
  replace e_y := e_y.symm
  subst e_y
  have fr_found2 := n.freeze at0 hl_found2 nl_found2 n0_found2
  replace en := (en.up fr_found2.2).renew (k := 4) rfl (Py.stays ((found ++ [(DatOf.toD ((od ++ [((od.getD (at_).toNat 0) + (1 : Int))]))), (DatOf.toD ((((cutL od none (some at_)) ++ [((maxI od) + (1 : Int))]) ++ (cutL od (some at_) none)))), (Dat.lst ((od.map Dat.int) ++ [Dat.non])), (Dat.lst (((((cutL od none (some at_))).map Dat.int) ++ [(DatOf.toD ([] : List Int))]) ++ (((cutL od (some at_) none)).map Dat.int)))]) ++ [(DatOf.toD ((((cutL od none (some at_)) ++ [(-(1 : Int))]) ++ (cutL od (some ((at_ + (1 : Int)))) none))))])) ⟨l_found2, (us_found2 ++ [v_found2_y]), rfl, upd_same, ea_found2.ex fr_found2.2⟩
  replace n := fr_found2.1
  refine q_asgNewS (i := 5) flat_int at0 n en (tn_listOf (ty_var (x := od) rfl)) (by omega) fun swapped l_swapped us_swapped z' B' H' σ' e_swapped s n en hl_swapped nl_swapped n0_swapped _ ea_swapped => ?_
  have gl_swapped := at0.ne n0_swapped
  replace e_swapped := e_swapped.symm
  subst e_swapped
  refine q_swapS at0 n en (k := 5) (ki := 2) (kj := 3) (i := at_) (j := to) rfl rfl rfl hl_swapped nl_swapped n0_swapped ea_swapped ⟨by omega, by omega⟩ ⟨by omega, by omega⟩ fun H' n hl_swapped => ?_
  have ea_swapped := Each.set (x := od.getD (at_).toNat 0) (to).toNat (Each.set (x := od.getD (to).toNat 0) (at_).toNat ea_swapped)
  have fr_swapped := n.freeze at0 hl_swapped nl_swapped n0_swapped
  replace en := (en.up fr_swapped.2).renew (k := 5) rfl (Py.stays ((od.set (at_).toNat (od.getD (to).toNat 0)).set (to).toNat (od.getD (at_).toNat 0))) ⟨l_swapped, ((us_swapped.set (at_).toNat (.int (od.getD (to).toNat 0))).set (to).toNat (.int (od.getD (at_).toNat 0))), rfl, upd_same, ea_swapped.ex fr_swapped.2⟩
  replace n := fr_swapped.1
  refine q_asgS at0 n en (i := 4) (ty_cat (ty_var (x := ((found ++ [(DatOf.toD ((od ++ [((od.getD (at_).toNat 0) + (1 : Int))]))), (DatOf.toD ((((cutL od none (some at_)) ++ [((maxI od) + (1 : Int))]) ++ (cutL od (some at_) none)))), (Dat.lst ((od.map Dat.int) ++ [Dat.non])), (Dat.lst (((((cutL od none (some at_))).map Dat.int) ++ [(DatOf.toD ([] : List Int))]) ++ (((cutL od (some at_) none)).map Dat.int)))]) ++ [(DatOf.toD ((((cutL od none (some at_)) ++ [(-(1 : Int))]) ++ (cutL od (some ((at_ + (1 : Int)))) none))))])) rfl) (ty_lit (tl_cons (ty_var (x := ((od.set (at_).toNat (od.getD (to).toNat 0)).set (to).toNat (od.getD (at_).toNat 0))) rfl).dat (tl_cons (ty_cat (ty_cat (ty_sl (ty_var (x := od) rfl) to_none (to_some (ty_var (x := at_) rfl))).intsD (ty_lit (tl_cons ty_b.dat tl_nil) (by simp)) (by first | omega | (simp only [List.length_append, List.length_map, List.length_cons, List.length_nil]; omega))) (ty_sl (ty_var (x := od) rfl) (to_some (ty_I0 (f := fun a b => a + b) (ty_var (x := at_) rfl) ty_i)) to_none).intsD (by first | omega | (simp only [List.length_append, List.length_map, List.length_cons, List.length_nil]; omega))).datLst (tl_cons (ty_cat (ty_cat (ty_sl (ty_var (x := od) rfl) to_none (to_some (ty_var (x := at_) rfl))).intsD (ty_lit (tl_cons (ty_lit (tl_cons (ty_ixD 0 (ty_var (x := od) rfl) (ty_var (x := at_) rfl) ⟨by omega, by omega⟩) tl_nil) (by simp)).dat tl_nil) (by simp)) (by first | omega | (simp only [List.length_append, List.length_map, List.length_cons, List.length_nil]; omega))) (ty_sl (ty_var (x := od) rfl) (to_some (ty_I0 (f := fun a b => a + b) (ty_var (x := at_) rfl) ty_i)) to_none).intsD (by first | omega | (simp only [List.length_append, List.length_map, List.length_cons, List.length_nil]; omega))).datLst (tl_cons (ty_lit (tl_cons (ty_var (x := od) rfl) tl_nil) (by simp)).dat tl_nil)))) (by simp)) (by rw [e_found]; show 13 + 4 ≤ 100000; decide)) (by omega) fun found3 z' B' H' σ' e_found3 s n en => ?_
  refine q_ret at0 n en (ty_cat (ty_var (x := found3) rfl) (ty_lit (tl_cons (ty_cat (ty_sl (ty_var (x := od) rfl) (to_some (ty_var (x := at_) rfl)) to_none) (ty_sl (ty_var (x := od) rfl) to_none (to_some (ty_var (x := at_) rfl))) (by first | omega | (simp only [List.length_append, List.length_map, List.length_cons, List.length_nil]; omega))).dat (tl_cons (ty_sortedI1 (ty_var (x := od) rfl)).dat (tl_cons (ty_cat (ty_cat (ty_sl (ty_var (x := od) rfl) to_none (to_some (ty_var (x := at_) rfl))) (ty_lit (tl_cons (ty_I0 (f := fun a b => a + b) (ty_ixD 0 (ty_var (x := od) rfl) (ty_var (x := at_) rfl) ⟨by omega, by omega⟩) ty_i) tl_nil) (by simp)) (by first | omega | (simp only [List.length_append, List.length_map, List.length_cons, List.length_nil]; omega))) (ty_sl (ty_var (x := od) rfl) (to_some (ty_I0 (f := fun a b => a + b) (ty_var (x := at_) rfl) ty_i)) to_none) (by first | omega | (simp only [List.length_append, List.length_map, List.length_cons, List.length_nil]; omega))).dat (tl_cons ty_s.datStr (tl_cons (ty_ixD 0 (ty_var (x := od) rfl) (ty_var (x := at_) rfl) ⟨by omega, by omega⟩).dat tl_nil))))) (by simp)) (by rw [e_found3, e_found]; show 17 + 5 ≤ 100000; decide)) (by omega) fun x v z' B' H' e n h => q x v z' B' H' ?_ (n.le (by show _ ≤ 600; omega)) h
  exact (by
  rw [e, e_found3, e_found]
  have w : ∀ x ∈ od, x.natAbs < 2 ^ 67 := fun x hx => lt67 (os x hx)
  have wg := at_small os (i := at_)
  have wt := at_small os (i := to)
  refine ⟨rfl, ?_⟩
  intro d hd
  simp only [List.mem_append, List.mem_cons, List.not_mem_nil, or_false] at hd
  rcases hd with ((((rfl | rfl | rfl | rfl | rfl | rfl | rfl | rfl) | rfl | rfl | rfl | rfl) | rfl) | rfl | rfl | rfl | rfl) | rfl | rfl | rfl | rfl | rfl
  · exact bent_ints (by rw [List.length_reverse]; omega) (fun x hx => w x (List.mem_reverse.mp hx))
  · exact bent_ints (by omega) (fun x hx => w x (cut_mem hx))
  · exact bent_ints (by simp; omega) (all_snoc5 w (lt67 wg))
  · trivial
  · trivial
  · exact bent_ints (l := []) (by decide) (fun x h => nomatch h)
  · trivial
  · exact bent_mid (by omega) (fun x hx => w x (cut_mem hx)) it_non (fun x hx => w x (cut_mem hx))
  · exact bent_ints (by simp; omega) (all_snoc5 w (up67 wg))
  · exact bent_midi (by omega) (fun x hx => w x (cut_mem hx)) (up67 (os _ (max_mem op))) (fun x hx => w x (cut_mem hx))
  · exact bent_end (by omega) w it_non
  · exact bent_mid (by omega) (fun x hx => w x (cut_mem hx)) (it_list []) (fun x hx => w x (cut_mem hx))
  · exact bent_midi (by omega) (fun x hx => w x (cut_mem hx)) (by decide) (fun x hx => w x (cut_mem hx))
  · exact bent_ints (by rw [List.length_set, List.length_set]; omega) (set_small (set_small w (lt67 wt)) (lt67 wg))
  · exact bent_mid (by omega) (fun x hx => w x (cut_mem hx)) it_true (fun x hx => w x (cut_mem hx))
  · exact bent_mid (by omega) (fun x hx => w x (cut_mem hx)) (it_list _) (fun x hx => w x (cut_mem hx))
  · exact bent_one
  · exact bent_ints (by rw [List.length_append]; omega) (fun x hx => (List.mem_append.mp hx).elim (fun q => w x (cut_mem q)) (fun q => w x (cut_mem q)))
  · exact bent_ints (by rw [(sortI_perm od).length_eq]; omega) (fun x hx => w x ((sortI_perm od).mem_iff.mp hx))
  · exact bent_midi (by omega) (fun x hx => w x (cut_mem hx)) (up67 wg) (fun x hx => w x (cut_mem hx))
  · trivial
  · trivial)
end
end K05
set_option maxHeartbeats 4000000
namespace K05
open PySem PySem.Spec PyProof.Rows L2 AP Evl
theorem goodD_toD {ps v : List Int} : goodD ps (DatOf.toD v) = goodL ps v := by
  rw [goodD_ints wholes_ints]
  show goodL ps ((v.map Dat.int).map Dat.toI) = _
  rw [List.map_map, show v.map (Dat.toI ∘ Dat.int) = v from List.map_id _]
theorem sort_nums {ps : List Int} (nd : ps.Nodup) : sortI (numbersOf ps) = numbersOf ps := asc_unique (sort_asc _) (numbers_asc nd) (sortI_perm _)
theorem bent_src {due1 : List Int} {src : List Dat} {value : Dat} (b : Bent (DatOf.toD due1))
    (h : ∃ xs ys, (∃ a c, a = [DatOf.toD due1] ∧ (c.length = 22 ∧ ∀ d ∈ c, Bent d) ∧ xs = a ++ c) ∧ (ys.length = 22 ∧ ∀ d ∈ ys, Bent d) ∧ src = xs ++ ys) (hv : value ∈ src) : Bent value := by
  obtain ⟨xs, ys, ⟨a, c, rfl, hc, rfl⟩, hy, rfl⟩ := h
  rcases List.mem_append.mp hv with q | q
  · rcases List.mem_append.mp q with q | q
    · rw [List.mem_singleton.mp q]; exact b
    · exact hc.2 _ q
  · exact hy.2 _ q
theorem rw_two {x y : List Int} (hx : x.length ≤ 9) (hy : y.length ≤ 9) (h : ∀ a ∈ x, a.natAbs < 2 ^ 65) (h2 : ∀ a ∈ y, a.natAbs < 2 ^ 65) : Rw 200 20000 (DatOf.toD (x, y)) :=
  (rw_pair (L := 200) (W := 600) ((rw_list (m := 9) (fun a ha => rw_int (k := 65) (h a ha) (by decide) (by decide) (by decide)) hx).mono (by decide)) ((rw_list (m := 9) (fun a ha => rw_int (k := 65) (h2 a ha) (by decide) (by decide) (by decide)) hy).mono (by decide))).mono (by decide)
theorem num_small {ps : List Int} (nd : ps.Nodup) (hl : ps.length ≤ 9) (sm : ∀ a ∈ ps, a.natAbs < 2 ^ 65) : ∀ a ∈ numbersOf ps, a.natAbs < 2 ^ 65 := fun a ha => by
  obtain ⟨h0, h1⟩ := numbers_bound nd sm a ha
  have h2 : 200 * (ps.length : Int) * (ps.length : Int) ≤ 200 * 9 * 9 := by
    have a1 : 200 * (ps.length : Int) ≤ 1800 := by omega
    have a2 := Int.mul_le_mul a1 (show (ps.length : Int) ≤ 9 by omega) (by omega) (by omega)
    omega
  have h3 : a ≤ 16200 := Int.le_trans h1 h2
  omega
section
variable {G : Option Addr} {c0 c1 c2 c3 c4 c5 c6 c7 : Nat} {t0 t1 t2 t3 t4 t5 t6 t7 : TE} {Γ : AP.Ctx} {g : Addr}
theorem n_good_order {wd : Int} {ps : (List Int)} {E : XK} (h0 : AP.Ty G c0 t0 Γ (· = wd)) (h1 : AP.Ty G c1 t1 Γ (· = ps)) (hpre : wOk wd ∧ Places wd ps) : AP.TyN G ((c0 + (c1 + 0)) + 0) (tCall cGoodP.spN [] E (tCons t0 (tCons t1 tNil))) Γ (· = PairN.mk (orderOf ps) (numbersOf ps)) := tn_call (C := cGoodP) (wd, ps) (ta_cons h0 (ta_cons h1 ta_nil)) hpre
theorem z_good_order {wd : Int} {ps : (List Int)} {E : XK} (h0 : AP.Ty G c0 t0 Γ (· = wd)) (h1 : AP.Ty G c1 t1 Γ (· = ps)) (hpre : wOk wd ∧ Places wd ps) : AP.Ty G ((c0 + (c1 + 0)) + 0) (tCall cGoodP.spN [] E (tCons t0 (tCons t1 tNil))) Γ (· = PairN.mk (orderOf ps) (numbersOf ps)) := (n_good_order h0 h1 hpre).ty
theorem zk_good_order {wd : Int} {ps : (List Int)} {E : XK} (h0 : AP.Ty G c0 t0 Γ (· = wd)) (h1 : AP.Ty G c1 t1 Γ (· = ps)) (hpre : wOk wd ∧ Places wd ps) : AP.Ty G (0 + (c1 + (c0 + 0)) + 0) (tCallK cGoodP.spN (fun _ ks => ks.reverse) E tNil (tCons t1 (tCons t0 tNil))) Γ (· = PairN.mk (orderOf ps) (numbersOf ps)) := (tn_callR (C := cGoodP) (wd, ps) (ta_cons h1 (ta_cons h0 ta_nil)) hpre).ty
def cRight5 : AP.Con (Addr × Int) Bool := ⟨fun i => [Py.is (GenR.mk i.1), Py.is i.2], fun i G => G = some i.1 ∧ (1 ≤ i.2 ∧ i.2 ≤ 64), fun _ => 95000, fun i r => r = true⟩
theorem z__law_right {wd : Int} {E : XK} (h0 : AP.Ty (some g) c0 t0 Γ (· = GenR.mk g)) (h1 : AP.Ty (some g) c1 t1 Γ (· = wd)) (hpre : 1 ≤ wd ∧ wd ≤ 64) : AP.Ty (some g) ((c0 + (c1 + 0)) + 95000) (tCall cRight5.sp [] E (tCons t0 (tCons t1 tNil))) Γ (· = true) := ty_call (C := cRight5) (g, wd) (ta_cons h0 (ta_cons h1 ta_nil)) ⟨rfl, hpre⟩
end
section
variable {P : Program} {w : World} {K : PySem.W.Frag} {mg : Str → Option Value} {base : Heap}
abbrev s_law_right : Stmt := topS 40
theorem sc_law_right : FnScope ["_law_generator_here", "_law_width", "_law_places_here", "_law_given", "_law_due", "_law_told", "_law_order", "_law_numbers", "_law_value"] ["_law_generator_here", "_law_width"] (defScope s_law_right) := ⟨rfl, rfl, rfl, by decide +kernel, rfl, by decide +kernel, by decide +kernel⟩
theorem ok_law_right {f : Addr} {fd : FuncData} (F : Df K "_law_right" "_law_right" s_law_right [] f fd) (T : TN mg)  (F_law_drawn : Fo P w K mg base "_law_drawn" 4 ["_law_generator_here", "_law_width", "_law_most"] cDrawn.sp) (Fgood_order : Fo P w K mg base "good_order" 7 ["width", "places"] cGoodP.spN) (F_law_any : Fo P w K mg base "_law_any" 3 ["_law_generator_here", "_law_places_here"] cAny5.sp) (F_law_good : Fo P w K mg base "_law_good" 3 ["_law_places_here"] cGood5.sp) (F_law_bent : Fo P w K mg base "_law_bent" 3 ["_law_generator_here", "_law_order"] cBent5.sp) (Fis_good_order : Fo P w K mg base "is_good_order" 7 ["width", "places", "value"] cGoodD.sp) (F_law_is_good : Fo P w K mg base "_law_is_good" 3 ["_law_places_here", "_law_value"] cJudgeD.sp) :
    FnG P w K mg base CX0 12 f fd ["_law_generator_here", "_law_width"] cRight5.sp := by
  refine con_goG F sc_law_right cRight5 (fun _ => rfl) fun cdv A outer s H E i G z0 B0 ng hr hp at0 hz => ⟨_, (pss_cons (ps_set (i := 2) sc_law_right.nd rfl (.inl rfl) (pe_fo F_law_drawn (hr.mono (by decide)) (by rfl) (pa_cons (pv 0) (pa_cons (pv 1) (pa_cons pe_int pa_nil)))))
     (pss_cons (ps_par (i := 3) (j := 4) rfl sc_law_right.nd rfl rfl (by decide) rfl rfl (pa_cons (pe_callTy (r := rListS K) call_list_of (by rfl) T.b_list (by decide +kernel) (pa_cons (pv 2) pa_nil)) (pa_cons (pe_fo F_law_good (hr.mono (by decide)) (by rfl) (pa_cons (pv 2) pa_nil)) pa_nil)) (by rfl))
     (pss_cons (ps_set (i := 5) sc_law_right.nd rfl (.inl rfl) (pe_fo Fgood_order (hr.mono (by decide)) (by rfl) (pa_cons (pv 1) (pa_cons (pv 3) pa_nil))))
     (pss_cons (ps_if (PW.pt (pw_or (pt_cmpR op_ne (pe_callB (r := rRepr K) (call_reprD ng hr.units) (by rfl) T.b_repr (by decide +kernel) (pa_cons (pv 5) pa_nil)) (pe_callB (r := rRepr K) (call_reprD ng hr.units) (by rfl) T.b_repr (by decide +kernel) (pa_cons (pv 4) pa_nil)) (nomark _)) (pw_or (pt_cmpR (r := rNeD K) (op_neD hr.units) (pe_fok Fgood_order (hr.mono (by decide)) (by rfl) (pk_cons (pv 3) (pk_cons (pv 1) pk_nil))) (pv 4) (nomark _)) (pw_or1 (pt_cmpR (r := rNeD K) (op_neD hr.units) (pv 3) (pv 2) (nomark _)))))) (pss_one ps_never) pss_nil)
     (pss_cons (ps_expr (pe_bm PySem.F.plainAttrs_list PySem.F.slot_list_append PySem.F.type_list_append mt_append (pe_ix (r := rIxT K) ix_tup (pv 5) pe_int (fun _ _ => rfl)) (pa_cons pe_non pa_nil)))
     (pss_cons (ps_if (pt_cmpR (r := rNeD K) (op_neD hr.units) (pe_ix (r := rIxT K) ix_tup (pv 5) pe_int (fun _ _ => rfl)) (pe_ix (r := rIxT K) ix_tup (pv 4) pe_int (fun _ _ => rfl)) (nomark _)) (pss_one ps_never) pss_nil)
     (pss_cons (ps_expr (pe_bm PySem.F.plainAttrs_list PySem.F.slot_list_append PySem.F.type_list_append mt_append (pe_ix (r := rIxT K) ix_tup (pv 5) pe_int (fun _ _ => rfl)) (pa_cons pe_non pa_nil)))
     (pss_cons (ps_if (PW.pt (pw_or (pt_cmpR (r := rNeD K) (op_neD hr.units) (pe_fo Fgood_order (hr.mono (by decide)) (by rfl) (pa_cons (pv 1) (pa_cons (pv 2) pa_nil))) (pv 4) (nomark _)) (pw_or1 (pt_cmpR (r := rNeD K) (op_neD hr.units) (pe_callB (r := rSortedI K) cr_sortedI (by rfl) T.b_sorted (by decide +kernel) (pa_cons (pe_ix (r := rIxT K) ix_tup (pv 4) pe_int (fun _ _ => rfl)) pa_nil)) (pe_ix (r := rIxT K) ix_tup (pv 4) pe_int (fun _ _ => rfl)) (nomark _))))) (pss_one ps_never) pss_nil)
     (pss_cons (ps_asg (pe_fo F_law_any (hr.mono (by decide)) (by rfl) (pa_cons (pv 0) (pa_cons (pv 2) pa_nil))) (pg_tup rfl (pgs_cons (pg_name (i := 6) sc_law_right.nd rfl (.inl rfl)) (pgs_cons (pg_name (i := 7) sc_law_right.nd rfl (.inl rfl)) pgs_nil))))
     (pss_cons (ps_if (PW.pt (pw_or (pt_cmpR (r := rNeD K) (op_neD hr.units) (pv 7) (pe_ix (r := rIxT K) ix_tup (pv 4) pe_int (fun _ _ => rfl)) (nomark _)) (pw_or1 (pt_cmpR op_notBl (pe_fo Fis_good_order (hr.mono (by decide)) (by rfl) (pa_cons (pv 1) (pa_cons (pv 2) (pa_cons (pv 6) pa_nil)))) pe_bl (nomark _))))) (pss_one ps_never) pss_nil)
     (pss_cons (ps_for PassesOwn.never rfl (pi_listA (K := K) (pe_op op_cat (pe_op op_cat (pe_lst (pa_cons (pe_ix (r := rIxT K) ix_tup (pv 4) pe_int (fun _ _ => rfl)) pa_nil)) (pe_fo F_law_bent (hr.mono (by decide)) (by rfl) (pa_cons (pv 0) (pa_cons (pv 6) pa_nil)))) (pe_fo F_law_bent (hr.mono (by decide)) (by rfl) (pa_cons (pv 0) (pa_cons (pe_ix (r := rIxT K) ix_tup (pv 4) pe_int (fun _ _ => rfl)) pa_nil))))) (pg_name (i := 8) sc_law_right.nd rfl (.inl rfl))
      (pss_one (ps_if (pt_cmpR op_ne (pe_callB (r := rRepr K) (call_reprD ng hr.units) (by rfl) T.b_repr (by decide +kernel) (pa_cons (pe_fo Fis_good_order (hr.mono (by decide)) (by rfl) (pa_cons (pv 1) (pa_cons (pv 3) (pa_cons (pv 8) pa_nil)))) pa_nil)) (pe_callB (r := rRepr K) (call_reprD ng hr.units) (by rfl) T.b_repr (by decide +kernel) (pa_cons (pe_fo F_law_is_good (hr.mono (by decide)) (by rfl) (pa_cons (pv 2) (pa_cons (pv 8) pa_nil))) pa_nil)) (nomark _)) (pss_one ps_never) pss_nil)))
     (pss_one (ps_ret (pe_and (pe_cmpR op_isBl (pe_fok Fis_good_order (hr.mono (by decide)) (by rfl) (pk_cons (pv 6) (pk_cons (pv 3) (pk_cons (pv 1) pk_nil)))) pe_bl (nomark _)) (pe_one (pe_cmpR (r := rEqD K) (op_eqD hr.units) (pv 3) (pv 2) (nomark _))))))))))))))))), fun σ Q en q => ?_⟩
  obtain ⟨g, wd⟩ := i
  obtain ⟨eG, hp⟩ := hp
  subst eG
  have hp : 1 ≤ wd ∧ wd ≤ 64 := hp
  have hz1 : z0 + (95000 : Nat) ≤ 2 ^ 50 := hz
  have n := Nx.refl at0
  obtain ⟨w1, w2⟩ := hp
  have hwd : wOk wd := ⟨w1, w2⟩
  refine q_asgS at0 n en (i := 2) (z__law_drawn (ty_var (x := GenR.mk g) rfl) (ty_var (x := wd) rfl) ty_i ⟨hwd, by decide, by decide⟩) (by omega) fun places z' B' H' σ' e_places s n en => ?_
  have hpl : Places wd places := e_places.places (by decide)
  have nd := hpl.nodup.1
  have pl : places.length ≤ 9 := by have := e_places.2.1; omega
  have pp : 0 < places.length := e_places.1
  have sm : ∀ a ∈ places, a.natAbs < 2 ^ 65 := fun a ha => (e_places.small ⟨w1, w2⟩ a ha).2
  have gpre : places.Nodup ∧ places.length ≤ 100 ∧ (∀ a ∈ places, a.natAbs < 2 ^ 65) := ⟨nd, by omega, sm⟩
  have osm : ∀ a ∈ orderOf places, a.natAbs < 2 ^ 65 := fun a ha => sm a ((order_perm nd).mem_iff.mp ha)
  have ol : (orderOf places).length = places.length := (order_perm nd).length_eq
  have nl : (numbersOf places).length = places.length := numbers_len nd
  have rwp := rw_two (by omega) (by omega) osm (num_small nd pl sm)
  have hin : Within 64 places := fun p hp => by
    have h1 := e_places.2.2.1 p hp
    have h2 := Nat.pow_le_pow_right (n := 2) (by decide) (show wd.toNat ≤ 64 by omega)
    rw [two_cast'] at h1
    have e : ((2 : Int) ^ 64) = ((2 ^ 64 : Nat) : Int) := by decide
    rw [e]
    omega
  refine q_par at0 n en (i := 3) (j := 4) (ty_listOf (ty_var (x := places) rfl)) (z__law_good (ty_var (x := places) rfl) gpre) (by omega) fun given due z' B' H' σ' e_given e_due s n en => ?_
  replace e_given := e_given.symm
  subst e_given
  obtain ⟨B1, rfl⟩ : ∃ b, b = B' := ⟨_, rfl⟩
  have n1 := n
  have eb : Ex B1 B1 := Ex.refl _
  have en := en.age (.cons (GenR.mk g) (.cons (wd : Int) (.cons (places : (List Int)) (.cons (places : (List Int)) (.cons (due : ((List Int) × (List Int))) (.skip (.skip (.skip (.skip .nil)))))))))
  refine q_asgVN (j := 5) at0 n eb en (n_good_order (ty_var (x := (OldV.mk (wd : Int) : OldV B1 Int)) rfl).old (ty_var (x := (OldV.mk (places : (List Int)) : OldV B1 (List Int))) rfl).old ⟨hwd, hpl⟩) (by omega) fun told z' B' H' σ' e_told s n en => ?_
  have eb := eb.trans s.up
  replace e_told := e_told.symm
  subst e_told
  refine q_not at0 n en (((tt_or (tt_test (ty_neS (ty_reprG (ty_var (x := (NewV.mk (PairN.mk (orderOf places) (numbersOf places)) : NewV B1 PairN)) rfl).newv.pairN rwp) (ty_reprG (ty_var (x := (OldV.mk (due : ((List Int) × (List Int))) : OldV B1 ((List Int) × (List Int)))) rfl).old (by rw [e_due]; exact rwp)))) fun hb => (tt_or (tt_test (ty_neG (zk_good_order (ty_var (x := (OldV.mk (wd : Int) : OldV B1 Int)) rfl).old (ty_var (x := (OldV.mk (places : (List Int)) : OldV B1 (List Int))) rfl).old ⟨hwd, hpl⟩).pairN (ty_var (x := (OldV.mk (due : ((List Int) × (List Int))) : OldV B1 ((List Int) × (List Int)))) rfl).old)) fun hb => (tt_test (ty_neG (ty_var (x := (OldV.mk (places : (List Int)) : OldV B1 (List Int))) rfl).old (ty_var (x := (OldV.mk (places : (List Int)) : OldV B1 (List Int))) rfl).old))))).to (by rw [e_due]; simp)) (by omega) fun z' B' H' s n en => ?_
  have eb := eb.trans s.up
  refine q_pairApp1 (k := 5) at0 n n1 eb en rfl (by omega) fun v0 l2 B2 H' ex2 sd b1_l2 b0_l2 h0_l2 n en => ?_
  replace en := en.sunkG ex2 (.old (GenR.mk g) (.old (wd : Int) (.old (places : (List Int)) (.old (places : (List Int)) (.old (due : ((List Int) × (List Int))) (.told sd (.skip (.skip (.skip .nil)))))))))
  have eb := ex2
  refine q_not at0 n en (((tt_test (ty_neG (ty_sndL (ty_var (x := SndL.mk l2 (numbersOf places)) rfl)) (ty_snd (ty_var (x := (OldV.mk (due : ((List Int) × (List Int))) : OldV B1 ((List Int) × (List Int)))) rfl).old ty_i)))).to (by rw [e_due]; simp)) (by omega) fun z' B' H' s n en => ?_
  have eb := eb.trans s.up
  refine q_pairApp2 (k := 5) at0 n eb en rfl b1_l2 b0_l2 h0_l2 (by omega) fun B3 H' ex3 n en => ?_
  have eb := ex3
  have en := en.young (.old (GenR.mk g) (.old (wd : Int) (.old (places : (List Int)) (.old (places : (List Int)) (.old (due : ((List Int) × (List Int))) (.skip (.skip (.skip (.skip .nil)))))))))
  have n := Nx.back n1 n eb
  refine q_not at0 n en (((tt_or (tt_test (ty_neG (z_good_order (ty_var (x := wd) rfl) (ty_var (x := places) rfl) ⟨hwd, hpl⟩).pairN (ty_var (x := due) rfl))) fun hb => (tt_test (ty_neG (ty_sortedI1 (ty_snd (ty_var (x := due) rfl) ty_i)) (ty_snd (ty_var (x := due) rfl) ty_i))))).to (by rw [e_due]; simp [sort_nums nd])) (by omega) fun z' B' H' s n en => ?_
  refine q_unpS at0 n en (i := 6) (j := 7) (z__law_any (ty_var (x := GenR.mk g) rfl) (ty_var (x := places) rfl) gpre) (by omega) fun order_numbers z' B' H' σ' e_order_numbers s n en => ?_
  obtain ⟨order, numbers⟩ := order_numbers
  have e_order := e_order_numbers
  have rg : RunG places order numbers [] := e_order
  have hnum : numbers = numbersOf places := rung_nums nd hin rg
  have hgd := rung_good nd rg
  have hpm := rung_perm nd rg
  have orl : order.length = places.length := hpm.length_eq
  have orsm : ∀ a ∈ order, a.natAbs < 2 ^ 65 := fun a ha => sm a (hpm.mem_iff.mp ha)
  have os30 : (DatOf.toD order).small := by show (order.map Dat.int).length ≤ 30000; rw [List.length_map]; omega
  have bdue : Bent (DatOf.toD due.1) := by rw [e_due]; exact bent_ints (l := orderOf places) (by omega) (fun x hx => lt67 (osm x hx))
  refine q_not at0 n en (((tt_or (tt_test (ty_neG (ty_var (x := numbers) rfl) (ty_snd (ty_var (x := due) rfl) ty_i))) fun hb => (tt_test (ty_notB (zD_is_good_order (ty_var (x := wd) rfl) (ty_var (x := places) rfl) (ty_var (x := order) rfl).dat ⟨hwd, hpl, os30⟩) ty_b)))).to (by rw [e_due, hnum, goodD_toD, hgd]; simp)) (by omega) fun z' B' H' s n en => ?_
  refine q_forLNS at0 n en (cb := 0) (ty_catN (ty_catN (ty_lit (tl_cons (ty_fst (ty_var (x := due) rfl) ty_i).dat tl_nil) (by simp)) (z__law_bent (ty_var (x := GenR.mk g) rfl) (ty_var (x := order) rfl) ⟨by omega, by omega, orsm⟩) (fun xs ys hx hy => by rw [hx]; have := hy.1; show 1 + ys.length ≤ 100000; omega)) (z__law_bent (ty_var (x := GenR.mk g) rfl) (ty_fst (ty_var (x := due) rfl) ty_i) (by rw [e_due]; exact ⟨(show 0 < (orderOf places).length by omega), (show (orderOf places).length ≤ 90 by omega), osm⟩)) (fun xs ys hx hy => by obtain ⟨a, b, ha, hb, e⟩ := hx; rw [e, ha, List.length_append]; have := hb.1; have := hy.1; show 1 + b.length + ys.length ≤ 100000; omega)) (by omega) (fun k Γ B H => ∃ (o5 o8 : Option VP), Γ = [some (Py.is (GenR.mk g)), some (Py.is (wd : Int)), some (Py.is (places : (List Int))), some (Py.is (places : (List Int))), some (Py.is (due : ((List Int) × (List Int)))), o5, some (Py.is (order : (List Int))), some (Py.is (numbers : (List Int))), o8] ∧ (True)) (fun z' B' H' s en => ⟨_, _, rfl, trivial⟩) (fun _ _ _ _ _ h _ => h) (fun src hsrc Bs k value Γ' z' B' H' σ' hx inv eb n en => ?_) fun src hsrc Γ' z' B' H' σ' inv eb2 n en => ?_
  · obtain ⟨o5, o8, rfl, inv⟩ := inv
    have bv : Bent value := bent_src bdue hsrc (List.mem_of_getElem? hx)
    refine s_not at0 n en (((tt_test (ty_neS (ty_reprG (zD_is_good_order (ty_var (x := wd) rfl) (ty_var (x := places) rfl) (ty_var (x := value) rfl) ⟨hwd, hpl, bv.small⟩) (rw_bool (L := 200))) (ty_reprG (z__law_is_good (ty_var (x := places) rfl) (ty_var (x := value) rfl) ⟨nd, by omega, sm, bv⟩) (rw_bool (L := 200)))))).to (by simp)) (by omega) fun z' B' H' s n en => ?_
    have eb := eb.trans s.up
    exact ⟨_, z', B', ⟨_, _, rfl, trivial⟩, eb, n.le (by omega), en⟩
  · obtain ⟨o5, o8, rfl, inv⟩ := inv
    refine q_ret at0 n en (ty_andV (ty_isB (zkD_is_good_order (ty_var (x := wd) rfl) (ty_var (x := places) rfl) (ty_var (x := order) rfl).dat ⟨hwd, hpl, os30⟩) ty_b) fun hb => (ty_eqG (ty_var (x := places) rfl) (ty_var (x := places) rfl))) (by omega) fun x v z' B' H' e n h => q x v z' B' H' ?_ (n.le (by show _ ≤ 95000; omega)) h
    exact e.trans (by rw [goodD_toD, hgd]; simp)
end
end K05
set_option maxHeartbeats 0
namespace K05
open PySem PySem.Spec PyProof.Rows L2 AP Evl
/-! ### the law's own draws -/
abbrev s_hash : Stmt := topS 27
abbrev s_random : Stmt := topS 29
abbrev s_cell : Stmt := topS 26
abbrev s_generator : Stmt := topS 28
theorem sc_hash : FnScope ["_law_seed", "_law_index", "_law_mixed"] ["_law_seed", "_law_index"] (defScope s_hash) :=
  ⟨rfl, rfl, rfl, by decide +kernel, rfl, by decide +kernel, by decide +kernel⟩
theorem sc_random : FnScope ["_law_generator_here", "_law_limit", "_law_drawn_here", "_law_turn"] ["_law_generator_here", "_law_limit"] (defScope s_random) :=
  ⟨rfl, rfl, rfl, by decide +kernel, rfl, by decide +kernel, by decide +kernel⟩
theorem sc_cell : FnScope ["_law_script", "_law_index"] ["_law_script", "_law_index"] (defScope s_cell) :=
  ⟨rfl, rfl, rfl, by decide +kernel, rfl, by decide +kernel, by decide +kernel⟩
theorem sc_generator : FnScope ["_law_script", "_law_index", "_law_seed"] ["_law_script", "_law_index"] (defScope s_generator) :=
  ⟨rfl, rfl, rfl, by decide +kernel, rfl, by decide +kernel, by decide +kernel⟩
/-- the built-in names that the draws use -/
structure TB (mg : Str → Option Value) : Prop where
  int : mg "int" = none
  len : mg "len" = none
  sum : mg "sum" = none
  max : mg "max" = none
  range : mg "range" = none
section
variable {P : Program} {w : World} {K : PySem.W.Frag} {mg : Str → Option Value} {base : Heap}
theorem ok_hash {f : Addr} {fd : FuncData} (F : Df K "_law_hash" "_law_hash" s_hash [] f fd) (T : TB mg) :
    FnOk P w K mg base CX0 1 f fd ["_law_seed", "_law_index"] spHash := by
  refine F.go sc_hash (fun vs H Q E h => ?_) (fun cdv A outer s H vs Q E hr h => ?_)
  · obtain ⟨_, _, rfl, _⟩ := h
    rfl
  · obtain ⟨s0, i, rfl, h0, h1, q⟩ := h
    refine ⟨_, pss_cons (ps_set (i := 2) sc_hash.nd rfl (.inl rfl) (pe_op op_mod (pe_callTy call_int1 (by rfl) T.int (by decide +kernel) (pa_cons (pe_op op_add (pe_op op_add (pe_op op_add (pe_op op_mul (pv 0) pe_int) (pe_op op_mul (pe_op op_mul pe_int (pv 1)) (pv 1))) (pe_op op_mul pe_int (pv 1))) pe_int) pa_nil)) pe_int))
     (pss_cons (ps_set (i := 2) sc_hash.nd rfl (.inl rfl) (pe_op op_mod (pe_callTy call_int1 (by rfl) T.int (by decide +kernel) (pa_cons (pe_op op_add (pe_op op_add (pe_op op_mul (pv 2) (pv 2)) (pe_op op_mul pe_int (pv 1))) pe_int) pa_nil)) pe_int))
     (pss_one (ps_ret (pe_op op_mod (pe_callTy call_int1 (by rfl) T.int (by decide +kernel) (pa_cons (pe_op op_mul (pv 2) pe_int) pa_nil)) pe_int)))), ?_⟩
    refine ⟨_, rfl, _, _, rfl, rfl, .inr ⟨by decide, by decide⟩, _, rfl, _, _, rfl, rfl, .inl ⟨by decide, by decide⟩, _, rfl, _, _, rfl, rfl, .inr ⟨by omega, by omega⟩,
      _, _, rfl, rfl, _, rfl, _, _, rfl, rfl, .inl ⟨by decide, by decide⟩, _, _, rfl, rfl, _, _, rfl, rfl, .inl ⟨_, rfl, _, _, rfl, rfl, (by show (0 : Int) < 2147483629; decide), ?_⟩⟩
    obtain ⟨m, em, m0, m1⟩ := rest_of (s0 * 1140671 + 27644437 * i * i + 131 * i + 19) (n := 2147483629) (by decide)
    dsimp only
    rw [em]
    refine ⟨_, rfl, _, rfl, _, _, rfl, rfl, .inl ⟨by omega, by omega⟩, _, rfl, _, _, rfl, rfl, .inl ⟨by decide, by decide⟩, _, _, rfl, rfl, _, _, rfl, rfl,
      .inl ⟨_, rfl, _, _, rfl, rfl, (by show (0 : Int) < 2147483587; decide), ?_⟩⟩
    obtain ⟨m', em', m0', m1'⟩ := rest_of (m * m + 62089 * i + 32416187) (n := 2147483587) (by decide)
    dsimp only
    rw [em']
    refine ⟨_, rfl, _, _, rfl, rfl, .inr ⟨by decide, by decide⟩, .inl ⟨_, rfl, _, _, rfl, rfl, (by show (0 : Int) < 2147483647; decide), ?_⟩⟩
    obtain ⟨n, en, n0, n1⟩ := rest_of (m' * 48271) (n := 2147483647) (by decide)
    dsimp only
    rw [en]
    exact q n n0 (by omega)
theorem ok_random {f fh : Addr} {fd fdh : FuncData} (F : Df K "_law_random" "_law_random" s_random [] f fd) (T : TB mg)
    (FH : Df K "_law_hash" "_law_hash" s_hash [] fh fdh) (mH : mg "_law_hash" = some (.ref fh)) (bH : Binds K fdh ["_law_seed", "_law_index"] []) :
    FnOk P w K mg base CX0 2 f fd ["_law_generator_here", "_law_limit"] spRandom := by
  have GH : FnOk P w K mg base CX0 1 fh fdh ["_law_seed", "_law_index"] spHash := ok_hash FH T
  refine F.go sc_random (fun vs H Q E h => ?_) (fun cdv A outer s H vs Q E hr h => ?_)
  · obtain ⟨_, _, _, _, _, rfl, _⟩ := h
    rfl
  · obtain ⟨g, b, x, y, z, rfl, ⟨hg, hx, hy, hz, hz'⟩, hb, hb', q⟩ := h
    refine ⟨_, pss_cons (ps_if (pt_cmpR op_gt (pe_ix ix_list (pv 0) pe_int (fun _ _ => rfl)) pe_int (nomark _)) (pss_cons (ps_set (i := 2) sc_random.nd rfl (.inl rfl) (pe_op op_mod (pe_callTy call_int1 (by rfl) T.int (by decide +kernel) (pa_cons (pe_ix ix_list (pv 0) pe_int (fun _ _ => rfl)) pa_nil)) (pv 1)))
       (pss_cons (ps_asg (pe_op op_fdivW (pe_ix ix_list (pv 0) pe_int (fun _ _ => rfl)) (pv 1)) (pg_sub (pv 0) pe_int set_list))
       (pss_one (ps_ret (pv 2))))) pss_nil)
     (pss_cons (ps_set (i := 2) sc_random.nd rfl (.inl rfl) pe_int)
     (pss_cons (ps_for PassesOwn.never rfl (pi_range1 (by rfl) T.range (pa_cons (pe_op op_add pe_int (pe_op op_fdivW (pe_bits (pv 1)) pe_int)) pa_nil)) (pg_name (i := 3) sc_random.nd rfl (.inl rfl))
      (pss_cons (ps_asg (pe_op op_add (pe_ix ix_list (pv 0) pe_int (fun _ _ => rfl)) pe_int) (pg_sub (pv 0) pe_int set_list))
       (pss_one (ps_set (i := 2) sc_random.nd rfl (.inl rfl) (pe_op op_add (pe_op op_mul (pv 2) pe_int) (pe_call GH hr (by rfl) mH FH.kp bH .nil pass0 (pa_cons (pe_ix ix_list (pv 0) pe_int (fun _ _ => rfl)) (pa_cons (pe_ix ix_list (pv 0) pe_int (fun _ _ => rfl)) pa_nil))))))))
     (pss_one (ps_ret (pe_op op_mod (pe_callTy call_int1 (by rfl) T.int (by decide +kernel) (pa_cons (pv 2) pa_nil)) (pv 1)))))), ?_⟩
    have sq : SqL K H g [.int x, .int y, .int z] := SqL.of hg
    refine ⟨_, rfl, _, _, 0, _, rfl, rfl, sq, atI_nat (j := 0) rfl, _, _, rfl, rfl, _, rfl, ite2 (fun c => ?_) (fun c => ?_)⟩
    · -- digits of the seed
      have x0 : 0 < x := of_decide_eq_true c
      obtain ⟨r, er, r0, r1⟩ := rest_of x (n := b) hb
      have d0 : 0 ≤ x / b := Int.ediv_nonneg hx (by omega)
      have d1 : x / b ≤ x := Int.ediv_le_self _ hx
      refine ⟨_, rfl, _, _, 0, _, rfl, rfl, sq, atI_nat (j := 0) rfl, .inl ⟨_, rfl, _, rfl, _, _, rfl, rfl, hb, ?_⟩⟩
      dsimp only
      rw [er]
      refine ⟨_, rfl, _, _, 0, _, rfl, rfl, sq, atI_nat (j := 0) rfl, _, rfl, _, _, rfl, rfl, wide_div hb hb' (by decide) (by decide),
        _, rfl, g, _, 0, 0, rfl, rfl, hg, rfl, _, rfl, ?_⟩
      exact q r (x / b) z _ r0 r1 ⟨upd_same, d0, hy, hz, by omega⟩ (fun a ha => upd_ne ha) (by omega)
    · -- a hash for each thirty bits
      have nb : (Builtin.Int.intBits b : Int) ≤ 8999 := bits_small hb hb'
      refine ⟨_, rfl, _, rfl, _, _, rfl, rfl, wide_div (b := 9) (by decide) (by decide) (by decide) (by decide), _, _, rfl, rfl, _, rfl, by omega, by omega, ?_⟩
      have nt : (1 + (Builtin.Int.intBits b : Int) / 30).toNat ≤ 300 := by omega
      refine for_range (lo := 0) (n := (1 + (Builtin.Int.intBits b : Int) / 30).toNat) (fun j σ' H' => ∃ (dr z' : Int) (t : Option V), σ' = [some (.ref g), some (.int b), some (.int dr), t] ∧ 0 ≤ dr ∧
          (H' g = some (.lst [.int x, .int y, .int z']) ∧ z ≤ z' ∧ z' ≤ z + j) ∧ ∀ a, a ≠ g → H' a = H a)
        ⟨0, z, none, rfl, by decide, ⟨hg, by omega, by omega⟩, fun _ _ => rfl⟩ (fun j σ' H' hj hp => ?_) (fun σ' H' hp => ?_)
      · obtain ⟨dr, z', t, rfl, hdr, ⟨hg', hz1, hz2⟩, oth⟩ := hp
        have sq' : SqL K H' g [.int x, .int y, .int z'] := SqL.of hg'
        refine ⟨_, rfl, _, _, 2, _, rfl, rfl, sq', atI_nat (j := 2) rfl, _, _, rfl, rfl, _, rfl, g, _, 2, 2, rfl, rfl, hg', rfl, ?_⟩
        have hg2 : (upd H' g (.lst ([V.int x, V.int y, V.int z'].set 2 (V.int (z' + 1))))) g = some (.lst [.int x, .int y, .int (z' + 1)]) := upd_same
        have sq2 := SqL.of (K := K) hg2
        refine ⟨_, rfl, _, _, rfl, rfl, .inr ⟨by decide, by decide⟩, _, rfl, _, _, 1, _, rfl, rfl, sq2, atI_nat (j := 1) rfl, _, rfl, _, _, 2, _, rfl, rfl, sq2, atI_nat (j := 2) rfl,
          y, z' + 1, rfl, by omega, by omega, fun n n0 n1 => ⟨_, _, rfl, rfl, dr * 2147483587 + n, z' + 1, _, rfl, by omega, ⟨hg2, by omega, by omega⟩, fun a ha => ?_⟩⟩
        exact (upd_ne ha).trans (oth a ha)
      · obtain ⟨dr, z', t, rfl, hdr, ⟨hg', hz1, hz2⟩, oth⟩ := hp
        obtain ⟨r, er, r0, r1⟩ := rest_of dr (n := b) hb
        refine ⟨_, rfl, .inl ⟨_, rfl, _, rfl, _, _, rfl, rfl, hb, ?_⟩⟩
        dsimp only
        rw [er]
        exact q r x z' H' r0 r1 ⟨hg', hx, hy, by omega, by omega⟩ oth (by omega)
theorem ok_cell {f : Addr} {fd : FuncData} (F : Df K "_law_cell" "_law_cell" s_cell [] f fd) (T : TB mg) :
    FnOk P w K mg base CX0 1 f fd ["_law_script", "_law_index"] (spCellA K) := by
  refine F.go sc_cell (fun vs H Q E h => ?_) (fun cdv A outer s H vs Q E hr h => ?_)
  · obtain ⟨_, _, _, rfl, _⟩ := h
    rfl
  · obtain ⟨a, ns, i, rfl, hS, q⟩ := h
    refine ⟨_, pss_cons (ps_if (pt_cmpR op_lt (pv 1) (pe_callB call_len_seq (by rfl) T.len (by decide +kernel) (pa_cons (pv 0) pa_nil)) (nomark _)) (pss_one (ps_ret (pe_ix ix_list (pv 0) (pv 1) (fun _ _ => rfl)))) pss_nil)
     (pss_one (ps_ret (pe_op op_mod (pe_callB (cr_sum rfl) (by rfl) T.sum (by decide +kernel) (pa_cons (pe_slice sl_list (pv 0) po_none (po_some pe_int)) pa_nil)) pe_int))), ?_⟩
    refine ⟨_, rfl, _, rfl, _, _, rfl, .inl hS, _, _, rfl, rfl, _, rfl, ite2 (fun c => ?_) (fun c => ?_)⟩
    · have lt : i < ns.length := by
        have c' : (i : Int) < ((ns.map V.int).length : Nat) := of_decide_eq_true c
        rw [List.length_map] at c'
        omega
      have at_ : (ns.map V.int)[i]? = some (.int ns[i]) := by
        rw [List.getElem?_map, List.getElem?_eq_getElem lt] <;> rfl
      exact ⟨_, rfl, _, rfl, _, _, _, _, rfl, rfl, hS, atI_nat at_, q _ _ (Evl.Ex.refl H)⟩
    · refine ⟨_, rfl, _, rfl, a, _, rfl, hS, fun p np => ?_⟩
      obtain ⟨ms, em⟩ := cut_ints ns none (some 1)
      refine ⟨p, ms, rfl, SqL.of (by rw [← em]; exact upd_same), _, _, rfl, rfl, (by show (0 : Int) < 1000003; decide), ?_⟩
      exact q _ _ (Evl.Ex.new np)
theorem ok_generator {f fc : Addr} {fd fdc : FuncData} (F : Df K "_law_generator" "_law_generator" s_generator [] f fd) (T : TB mg)
    (FC : Df K "_law_cell" "_law_cell" s_cell [] fc fdc) (mC : mg "_law_cell" = some (.ref fc)) (bC : Binds K fdc ["_law_script", "_law_index"] []) :
    FnOk P w K mg base CX0 2 f fd ["_law_script", "_law_index"] (spGenerator K) := by
  have GC : FnOk P w K mg base CX0 1 fc fdc ["_law_script", "_law_index"] (spCellA K) := ok_cell FC T
  refine F.go sc_generator (fun vs H Q E h => ?_) (fun cdv A outer s H vs Q E hr h => ?_)
  · obtain ⟨_, _, _, rfl, _⟩ := h
    rfl
  · obtain ⟨a, ns, i, rfl, hS, hi, q⟩ := h
    refine ⟨_, pss_cons (ps_set (i := 2) sc_generator.nd rfl (.inl rfl) (pe_call GC hr (by rfl) mC FC.kp bC .nil pass0 (pa_cons (pv 0) (pa_cons (pv 1) pa_nil))))
     (pss_one (ps_ret (pe_lst (pa_cons (pe_op op_mod (pe_callTy call_int1 (by rfl) T.int (by decide +kernel) (pa_cons (pe_callB (call_max2 rfl) (by rfl) T.max (by decide +kernel) (pa_cons (pe_op op_sub (pv 2) (pe_op op_powW pe_int pe_int)) (pa_cons pe_int pa_nil))) pa_nil)) (pe_op op_powW (pe_op op_powW pe_int pe_int) pe_int)) (pa_cons (pe_op op_mod (pe_callTy call_int1 (by rfl) T.int (by decide +kernel) (pa_cons (pv 2) pa_nil)) pe_int) (pa_cons (pe_op op_mul pe_int (pv 1)) pa_nil)))))), ?_⟩
    refine ⟨_, rfl, _, rfl, a, ns, i, rfl, hS, fun c H1 e1 => ?_⟩
    refine ⟨_, rfl, _, _, rfl, rfl, pow_a, _, _, rfl, rfl, _, _, rfl, .inl ⟨_, rfl, _, _, rfl, rfl, pow_b, _, _, rfl, rfl, pow_c, _, _, rfl, rfl, pow_d,
      _, rfl, .inl ⟨_, rfl, _, _, rfl, rfl, (by show (0 : Int) < 2147483647; decide), _, rfl, _, _, rfl, rfl, .inl ⟨by decide, by decide⟩, by show 3 ≤ sizeLine; decide, fun p np => ?_⟩⟩⟩
    have y1 : c % 2147483647 < 2147483647 := Int.emod_lt_of_pos _ (by decide)
    exact q p _ (Evl.fresh_back e1 np) (e1.trans (Evl.Ex.new np)) ⟨_, c % 2147483647, 1000 * i, upd_same, Int.emod_nonneg _ (by have := pow_d; omega),
      ⟨Int.emod_nonneg _ (by decide), by omega⟩, by omega, by omega⟩
end
theorem ix3 {xs : List Int} {i : Int} (ex : xs = [64, 1, 8]) (hi : 0 ≤ i ∧ i < 3) : ∃ x, atI xs i = some x ∧ (1 ≤ x ∧ x ≤ 64) := by
  subst ex
  have : i = 0 ∨ i = 1 ∨ i = 2 := by omega
  rcases this with rfl | rfl | rfl
  · exact ⟨64, rfl, by decide⟩
  · exact ⟨1, rfl, by decide⟩
  · exact ⟨8, rfl, by decide⟩
abbrev WidSrc (src : List Int) : Prop := ∃ x l, src = x :: l ∧ (∃ i j, i = 1 ∧ (0 ≤ j ∧ j < 5) ∧ x = i + j) ∧ ∃ y l', l = y :: l' ∧ (∃ i j, i = 1 ∧ (0 ≤ j ∧ j < 64) ∧ y = i + j) ∧ ∃ z l3, l' = z :: l3 ∧ (1 ≤ z ∧ z ≤ 64) ∧ l3 = []
theorem wid_src {src : List Int} {w : Int} (h : WidSrc src) (hw : w ∈ src) : 1 ≤ w ∧ w ≤ 64 := by
  obtain ⟨x, l, rfl, ⟨i, j, rfl, hj, rfl⟩, y, l', rfl, ⟨i2, j2, rfl, hj2, rfl⟩, z, l3, rfl, hz, rfl⟩ := h
  simp only [List.mem_cons, List.not_mem_nil, or_false] at hw
  rcases hw with rfl | rfl | rfl <;> omega
theorem wid_len {src : List Int} (h : WidSrc src) : src.length = 3 := by
  obtain ⟨x, l, rfl, _, y, l', rfl, _, z, l3, rfl, _, rfl⟩ := h
  rfl
section
variable {P : Program} {w : World} {K : PySem.W.Frag} {mg : Str → Option Value} {base : Heap}
abbrev slaw : Stmt := topS 41
theorem sclaw : FnScope ["_law_script", "_law_index", "_law_generator_here", "_law_width", "_law_far", "_law_order", "_law_numbers", "_law_at"] ["_law_script"] (defScope slaw) := ⟨rfl, rfl, rfl, by decide +kernel, rfl, by decide +kernel, by decide +kernel⟩
theorem ok_law {f : Addr} {fd : FuncData} (F : Df K "law" "law" slaw [] f fd) (T : TN mg) (F_law_generator : Fo P w K mg base "_law_generator" 2 ["_law_script", "_law_index"] (spGenerator K)) (F_law_random : Fo P w K mg base "_law_random" 2 ["_law_generator_here", "_law_limit"] cRandom.sp) (F_law_right : FoG P w K mg base "_law_right" 12 ["_law_generator_here", "_law_width"] cRight5.sp) (Fgood_order : Fo P w K mg base "good_order" 7 ["width", "places"] cGoodP.spN) (Fis_good_order : Fo P w K mg base "is_good_order" 7 ["width", "places", "value"] cGoodD.sp) (F_law_good : Fo P w K mg base "_law_good" 3 ["_law_places_here"] cGood5.sp) :
    FnG P w K mg base CX0 13 f fd ["_law_script"] (spLaw K) := by
  refine F.goG sclaw (fun vs H Q E h => ?_) (fun cdv A outer s H vs Q E ng hr h => ?_)
  · obtain ⟨_, _, rfl, _⟩ := h
    rfl
  · obtain ⟨a, ns, rfl, hS, q⟩ := h
    refine ⟨_, (pss_cons (ps_for PassesOwn.never rfl (pi_range1 (by rfl) T.b_range (pa_cons pe_int pa_nil)) (pg_name (i := 1) sclaw.nd rfl (.inl rfl))
      (pss_cons (ps_set (i := 2) sclaw.nd rfl (.inl rfl) (pe_fo F_law_generator (hr.mono (by decide)) (by rfl) (pa_cons (pv 0) (pa_cons (pv 1) pa_nil))))
     (pss_one (ps_for PassesOwn.never rfl (pi_listA (K := K) (pe_lst (pa_cons (pe_op op_add pe_int (pe_fo F_law_random (hr.mono (by decide)) (by rfl) (pa_cons (pv 2) (pa_cons pe_int pa_nil)))) (pa_cons (pe_op op_add pe_int (pe_fo F_law_random (hr.mono (by decide)) (by rfl) (pa_cons (pv 2) (pa_cons pe_int pa_nil)))) (pa_cons (pe_ix (r := rIxL K) ix_list (pe_lst (pa_cons pe_int (pa_cons pe_int (pa_cons pe_int pa_nil)))) (pe_fo F_law_random (hr.mono (by decide)) (by rfl) (pa_cons (pv 2) (pa_cons pe_int pa_nil))) (fun _ _ => rfl)) pa_nil))))) (pg_name (i := 3) sclaw.nd rfl (.inl rfl))
      (pss_one (ps_if (pt_not (pt_val (pe_fog F_law_right ng (hr.mono (by decide)) (by rfl) (pa_cons (pv 2) (pa_cons (pv 3) pa_nil))))) (pss_one ps_never) pss_nil))))))
     (pss_cons (ps_if (PW.pt (pw_or (pt_cmpR (r := rNeD K) (op_neD hr.units) (pe_fo Fgood_order (hr.mono (by decide)) (by rfl) (pa_cons pe_int (pa_cons (pe_lst (pa_cons pe_int (pa_cons pe_int (pa_cons pe_int (pa_cons pe_int pa_nil))))) pa_nil))) (pe_tup (pa_cons (pe_lst (pa_cons pe_int (pa_cons pe_int (pa_cons pe_int (pa_cons pe_int pa_nil))))) (pa_cons (pe_lst (pa_cons pe_int (pa_cons pe_int (pa_cons pe_int (pa_cons pe_int pa_nil))))) pa_nil))) (nomark _)) (pw_or1 (pt_cmpR op_notBl (pe_fo Fis_good_order (hr.mono (by decide)) (by rfl) (pa_cons pe_int (pa_cons (pe_lst (pa_cons pe_int (pa_cons pe_int (pa_cons pe_int (pa_cons pe_int pa_nil))))) (pa_cons (pe_lst (pa_cons pe_int (pa_cons pe_int (pa_cons pe_int (pa_cons pe_int pa_nil))))) pa_nil)))) pe_bl (nomark _))))) (pss_one ps_never) pss_nil)
     (pss_cons (ps_setLc (i := 4) (own := [("_law_at", 7)]) rfl sclaw.nd rfl rfl (sw_true rfl rfl rfl (by decide +kernel)) (pi_range1 (by rfl) T.b_range (pa_cons pe_int pa_nil)) (blkOk_by (own := [("_law_at", 7)]) (N := ["_law_script", "_law_index", "_law_generator_here", "_law_width", "_law_far", "_law_order", "_law_numbers", "_law_at"]) (sc := defScope slaw) (by decide +kernel)) (fun _ _ _ _ _ => (pg_name (i := 7) sclaw.nd rfl (Or.inl rfl))) (fun _ _ _ _ _ => pts_nil) (fun _ _ _ _ _ => (pe_op op_add (pe_op op_mulW (pv 7) (pv 7)) (pe_op op_mulW pe_int (pv 7)))))
     (pss_cons (ps_asg (pe_fo Fgood_order (hr.mono (by decide)) (by rfl) (pa_cons pe_int (pa_cons (pv 4) pa_nil))) (pg_tup rfl (pgs_cons (pg_name (i := 5) sclaw.nd rfl (.inl rfl)) (pgs_cons (pg_name (i := 6) sclaw.nd rfl (.inl rfl)) pgs_nil))))
     (pss_cons (ps_if (PW.pt (pw_or (pt_cmpR (r := rNeD K) (op_neD hr.units) (pe_tup (pa_cons (pv 5) (pa_cons (pv 6) pa_nil))) (pe_fo F_law_good (hr.mono (by decide)) (by rfl) (pa_cons (pv 4) pa_nil)) (nomark _)) (pw_or (pt_cmpR op_notBl (pe_fo Fis_good_order (hr.mono (by decide)) (by rfl) (pa_cons pe_int (pa_cons (pv 4) (pa_cons (pv 5) pa_nil)))) pe_bl (nomark _)) (pw_or1 (pt_cmpR op_notBl (pe_fo Fis_good_order (hr.mono (by decide)) (by rfl) (pa_cons pe_int (pa_cons (pv 4) (pa_cons (pe_op op_cat (pe_slice (r := rSlL K) sl_list (pv 4) (po_some pe_int) po_none) (pe_slice (r := rSlL K) sl_list (pv 4) po_none (po_some pe_int))) pa_nil)))) pe_bl (nomark _)))))) (pss_one ps_never) pss_nil)
     (pss_cons (ps_if (PW.pt (pw_or (pt_cmpR (r := rNeD K) (op_neD hr.units) (pe_fo Fgood_order (hr.mono (by decide)) (by rfl) (pa_cons pe_int (pa_cons (pe_lst (pa_cons pe_int (pa_cons pe_int pa_nil))) pa_nil))) (pe_tup (pa_cons (pe_lst (pa_cons pe_int (pa_cons pe_int pa_nil))) (pa_cons (pe_lst (pa_cons pe_int (pa_cons pe_int pa_nil))) pa_nil))) (nomark _)) (pw_or1 (pt_cmpR (r := rNeD K) (op_neD hr.units) (pe_fo Fgood_order (hr.mono (by decide)) (by rfl) (pa_cons pe_int (pa_cons (pe_lst (pa_cons pe_int pa_nil)) pa_nil))) (pe_tup (pa_cons (pe_lst (pa_cons pe_int pa_nil)) (pa_cons (pe_lst (pa_cons pe_int pa_nil)) pa_nil))) (nomark _))))) (pss_one ps_never) pss_nil)
     (pss_cons (ps_if (PW.pt (pw_or (pt_cmpR op_notBl (pe_fo Fis_good_order (hr.mono (by decide)) (by rfl) (pa_cons pe_int (pa_cons (pe_lst (pa_cons pe_int (pa_cons pe_int pa_nil))) (pa_cons (pe_lst (pa_cons pe_int (pa_cons pe_int (pa_cons pe_int pa_nil)))) pa_nil)))) pe_bl (nomark _)) (pw_or1 (pt_cmpR op_notBl (pe_fo Fis_good_order (hr.mono (by decide)) (by rfl) (pa_cons pe_int (pa_cons (pe_lst (pa_cons pe_int (pa_cons pe_int pa_nil))) (pa_cons (pe_lst (pa_cons pe_int (pa_cons pe_int (pa_cons pe_non pa_nil)))) pa_nil)))) pe_bl (nomark _))))) (pss_one ps_never) pss_nil)
     (pss_one (ps_ret (pe_and (pe_cmpR op_isBl (pe_fo Fis_good_order (hr.mono (by decide)) (by rfl) (pa_cons pe_int (pa_cons (pe_lst (pa_cons pe_int (pa_cons pe_int (pa_cons pe_int (pa_cons pe_int pa_nil))))) (pa_cons (pe_lst (pa_cons pe_int (pa_cons pe_int (pa_cons pe_int (pa_cons pe_int pa_nil))))) pa_nil)))) pe_bl (nomark _)) (pe_one (pe_cmpR (r := rEqD K) (op_eqD hr.units) (pe_ix (r := rIxT K) ix_tup (pe_fo Fgood_order (hr.mono (by decide)) (by rfl) (pa_cons pe_int (pa_cons (pe_lst (pa_cons pe_int (pa_cons pe_int (pa_cons pe_int (pa_cons pe_int pa_nil))))) pa_nil))) pe_int (fun _ _ => rfl)) (pe_lst (pa_cons pe_int (pa_cons pe_int (pa_cons pe_int (pa_cons pe_int pa_nil))))) (nomark _))))))))))))), ?_⟩
    have at0 : At none 0 H H := at_none
    have n := Nx.refl at0
    have en := slo_law (N := ["_law_script", "_law_index", "_law_generator_here", "_law_width", "_law_far", "_law_order", "_law_numbers", "_law_at"]) hS
    refine q_for1S at0 n en (cb := 300000) ty_i ⟨by omega, by omega⟩ (by omega) (fun k Γ B H => ∃ (o1 o2 o3 o4 o5 o6 o7 : Option VP), Γ = [some (ScP K a ns), o1, o2, o3, o4, o5, o6, o7] ∧ (True)) (fun z' B' H' s en => ⟨_, _, _, _, _, _, _, rfl, trivial⟩) (fun _ _ _ _ _ h _ => h) (fun Bs k  Γ' zo B' H' σ' hk inv eb n en => ?_) fun Γ' z' B' H' σ' inv eb2 n en => ?_
    · obtain ⟨o1, o2, o3, o4, o5, o6, o7, rfl, inv⟩ := inv
      have hk2 : k < 2 := by omega
      have nO := n
      refine q_genS (k := 0) (l := 1) (m := 2) (i := k) at0 n en rfl rfl (by omega) fun p z1 H1 σ1 at1 z1a z1b back en => ?_
      have n := Nx.refl at1
      refine q_forLN at1 n en (cb := 95000) (ty_lst (tl_consN (ty_I0N (f := fun a b => a + b) ty_i (z__law_random (ty_var (x := GenR.mk p) rfl) ty_i (small_b (by decide) (by decide)))) (tl_consN (ty_I0N (f := fun a b => a + b) ty_i (z__law_random (ty_var (x := GenR.mk p) rfl) ty_i (small_b (by decide) (by decide)))) (tl_consN (ty_ixN (ty_lit (tl_cons ty_i (tl_cons ty_i (tl_cons ty_i tl_nil))) (by simp)) (z__law_random (ty_var (x := GenR.mk p) rfl) ty_i (small_b (by decide) (by decide))) (fun xs i ex hi => ix3 ex hi)) tl_nil))) (fun xs h => by obtain ⟨x0, l0, e0, _, h⟩ := h; obtain ⟨x1, l1, e1, _, h⟩ := h; obtain ⟨x2, l2, e2, _, h⟩ := h; subst h; subst e2; subst e1; subst e0; simp)) (by omega) (fun k2 Γ B H => ∃ (o3 o4 o5 o6 o7 : Option VP), Γ = [some (ScP K a ns), some (Py.is ((k : Int) : Int)), some (Py.is (GenR.mk p)), o3, o4, o5, o6, o7] ∧ (True)) (fun z' B' H' s en => ⟨_, _, _, _, _, rfl, trivial⟩) (fun _ _ _ _ _ h _ => h) (fun src hsrc Bs k2 width Γ' zo B' H' σ' hx inv eb n en => ?_) fun src hsrc Γ' z' B' H' σ' inv eb2 n en => ?_
      · obtain ⟨o3, o4, o5, o6, o7, rfl, inv⟩ := inv
        have hw : 1 ≤ width ∧ width ≤ 64 := wid_src hsrc (List.mem_of_getElem? hx)
        have hk3 : k2 < 3 := by have := (List.getElem?_eq_some_iff.mp hx).1; rw [wid_len hsrc] at this; exact this
        refine s_not at1 n en (((tt_notD (tt_B (z__law_right (ty_var (x := GenR.mk p) rfl) (ty_var (x := width) rfl) hw)))).to (rfl)) (by omega) fun z' B' H' s n en => ?_
        have eb := eb.trans s.up
        exact ⟨_, z', B', ⟨_, _, _, _, _, rfl, trivial⟩, eb, n.le (by omega), en⟩
      · obtain ⟨o3, o4, o5, o6, o7, rfl, inv⟩ := inv
        have eb := eb.trans eb2
        rw [wid_len hsrc] at n
        exact ⟨_, zo, B', ⟨_, _, _, _, _, _, _, rfl, trivial⟩, eb, (back _ _ _ _ n).le (by omega), en⟩
    · obtain ⟨o1, o2, o3, o4, o5, o6, o7, rfl, inv⟩ := inv
      refine q_not at0 n en (((tt_or (tt_test (ty_neG (z_good_order ty_i (ty_lit (tl_cons ty_i (tl_cons ty_i (tl_cons ty_i (tl_cons ty_i tl_nil)))) (by simp)) ⟨⟨by decide, by decide⟩, ⟨by decide +kernel, by decide⟩⟩).pairN (ty_tup2 (ty_lit (tl_cons ty_i (tl_cons ty_i (tl_cons ty_i (tl_cons ty_i tl_nil)))) (by simp)) (ty_lit (tl_cons ty_i (tl_cons ty_i (tl_cons ty_i (tl_cons ty_i tl_nil)))) (by simp))))) fun hb => (tt_test (ty_notB (zD_is_good_order ty_i (ty_lit (tl_cons ty_i (tl_cons ty_i (tl_cons ty_i (tl_cons ty_i tl_nil)))) (by simp)) (ty_lit (tl_cons ty_i (tl_cons ty_i (tl_cons ty_i (tl_cons ty_i tl_nil)))) (by simp)).dat ⟨⟨by decide, by decide⟩, ⟨by decide +kernel, by decide⟩, (show (4 : Nat) ≤ 30000 by decide)⟩) ty_b)))).to (by decide +kernel)) (by omega) fun z' B' H' s n en => ?_
      refine q_asgS at0 n en (i := 4) (ty_lc1M (f := (fun at_ : Int => ((at_ * at_) + ((5 : Int) * at_)))) ty_i (by omega) (by simp) fun at_ h0_at_ h1_at_ => (ty_I0 (f := fun a b => a + b) (ty_I (C := CMulW) (f := fun a b => a * b) (ty_var (x := at_) rfl) (ty_var (x := at_) rfl) (wide_mul (a := 300) (b := 300) (by omega) (by omega) (by decide) (by decide) (by decide))) (ty_I (C := CMulW) (f := fun a b => a * b) ty_i (ty_var (x := at_) rfl) (wide_mul (a := 300) (b := 300) (by omega) (by omega) (by decide) (by decide) (by decide))))) (by omega) fun far z' B' H' σ' e_far s n en => ?_
      refine q_unpS at0 n en (i := 5) (j := 6) (z_good_order ty_i (ty_var (x := far) rfl) ⟨⟨by decide, by decide⟩, (by rw [e_far]; exact ⟨by decide +kernel, by decide +kernel⟩)⟩).pairN (by omega) fun order_numbers z' B' H' σ' e_order_numbers s n en => ?_
      obtain ⟨order, numbers⟩ := order_numbers
      obtain ⟨e_order, e_numbers⟩ := Prod.mk.inj e_order_numbers
      refine q_not at0 n en (((tt_or (tt_test (ty_neG (ty_tup2 (ty_var (x := order) rfl) (ty_var (x := numbers) rfl)) (z__law_good (ty_var (x := far) rfl) (by rw [e_far]; decide +kernel)))) fun hb => (tt_or (tt_test (ty_notB (zD_is_good_order ty_i (ty_var (x := far) rfl) (ty_var (x := order) rfl).dat ⟨⟨by decide, by decide⟩, (by rw [e_far]; exact ⟨by decide +kernel, by decide +kernel⟩), (by show (order.map Dat.int).length ≤ 30000; rw [List.length_map, e_order, e_far]; decide +kernel)⟩) ty_b)) fun hb => (tt_test (ty_notB (zD_is_good_order ty_i (ty_var (x := far) rfl) (ty_cat (ty_sl (ty_var (x := far) rfl) (to_some ty_i) to_none) (ty_sl (ty_var (x := far) rfl) to_none (to_some ty_i)) (by rw [e_far]; decide +kernel)).dat ⟨⟨by decide, by decide⟩, (by rw [e_far]; exact ⟨by decide +kernel, by decide +kernel⟩), (by rw [e_far]; show (List.map Dat.int _).length ≤ 30000; rw [List.length_map]; decide +kernel)⟩) ty_b))))).to (by rw [e_order, e_numbers, e_far]; decide +kernel)) (by omega) fun z' B' H' s n en => ?_
      refine q_not at0 n en (((tt_or (tt_test (ty_neG (z_good_order ty_i (ty_lit (tl_cons ty_i (tl_cons ty_i tl_nil)) (by simp)) ⟨⟨by decide, by decide⟩, ⟨by decide +kernel, by decide⟩⟩).pairN (ty_tup2 (ty_lit (tl_cons ty_i (tl_cons ty_i tl_nil)) (by simp)) (ty_lit (tl_cons ty_i (tl_cons ty_i tl_nil)) (by simp))))) fun hb => (tt_test (ty_neG (z_good_order ty_i (ty_lit (tl_cons ty_i tl_nil) (by simp)) ⟨⟨by decide, by decide⟩, ⟨by decide +kernel, by decide⟩⟩).pairN (ty_tup2 (ty_lit (tl_cons ty_i tl_nil) (by simp)) (ty_lit (tl_cons ty_i tl_nil) (by simp))))))).to (by decide +kernel)) (by omega) fun z' B' H' s n en => ?_
      refine q_not at0 n en (((tt_or (tt_test (ty_notB (zD_is_good_order ty_i (ty_lit (tl_cons ty_i (tl_cons ty_i tl_nil)) (by simp)) (ty_lit (tl_cons ty_i (tl_cons ty_i (tl_cons ty_i tl_nil))) (by simp)).dat ⟨⟨by decide, by decide⟩, ⟨by decide +kernel, by decide⟩, (show (3 : Nat) ≤ 30000 by decide)⟩) ty_b)) fun hb => (tt_test (ty_notB (zD_is_good_order ty_i (ty_lit (tl_cons ty_i (tl_cons ty_i tl_nil)) (by simp)) (ty_lit (tl_cons ty_i.dat (tl_cons ty_i.dat (tl_cons ty_n.datNon tl_nil))) (by simp)).datLst ⟨⟨by decide, by decide⟩, ⟨by decide +kernel, by decide⟩, (show (3 : Nat) ≤ 30000 by decide)⟩) ty_b)))).to (by decide +kernel)) (by omega) fun z' B' H' s n en => ?_
      refine q_ret at0 n en (ty_andV (ty_isB (zD_is_good_order ty_i (ty_lit (tl_cons ty_i (tl_cons ty_i (tl_cons ty_i (tl_cons ty_i tl_nil)))) (by simp)) (ty_lit (tl_cons ty_i (tl_cons ty_i (tl_cons ty_i (tl_cons ty_i tl_nil)))) (by simp)).dat ⟨⟨by decide, by decide⟩, ⟨by decide +kernel, by decide⟩, (show (4 : Nat) ≤ 30000 by decide)⟩) ty_b) fun hb => (ty_eqG ((ty_snd (z_good_order ty_i (ty_lit (tl_cons ty_i (tl_cons ty_i (tl_cons ty_i (tl_cons ty_i tl_nil)))) (by simp)) ⟨⟨by decide, by decide⟩, ⟨by decide +kernel, by decide⟩⟩).pairN ty_i).to (y := ((numbersOf ([(1 : Int), (3 : Int), (5 : Int), (7 : Int)])))) rfl) (ty_lit (tl_cons ty_i (tl_cons ty_i (tl_cons ty_i (tl_cons ty_i tl_nil)))) (by simp)))) (by omega) fun x v z' B' H' e n h => ?_
      have e2 : x = true := e.trans (by decide +kernel)
      subst e2
      cases (show v = .bl true from h)
      exact q H'
end
/-! ### the head -/
def fn : List He.DefD := [
  ⟨("is_whole", none), "is_whole", "is_whole", defArgs sis_whole, defBody sis_whole, defScope sis_whole, [], []⟩,
  ⟨("twos_of", none), "twos_of", "twos_of", defArgs stwos_of, defBody stwos_of, defScope stwos_of, [], []⟩,
  ⟨("climbs", none), "climbs", "climbs", defArgs sclimbs, defBody sclimbs, defScope sclimbs, [], []⟩,
  ⟨("costs_at_first", none), "costs_at_first", "costs_at_first", defArgs scosts_at_first, defBody scosts_at_first, defScope scosts_at_first, [], []⟩,
  ⟨("_law_cell", none), "_law_cell", "_law_cell", defArgs s_cell, defBody s_cell, defScope s_cell, [], []⟩,
  ⟨("_law_hash", none), "_law_hash", "_law_hash", defArgs s_hash, defBody s_hash, defScope s_hash, [], []⟩,
  ⟨("_law_twos", none), "_law_twos", "_law_twos", defArgs s_law_twos, defBody s_law_twos, defScope s_law_twos, [], []⟩,
  ⟨("_law_double", none), "_law_double", "_law_double", defArgs s_law_double, defBody s_law_double, defScope s_law_double, [], []⟩,
  ⟨("is_between", none), "is_between", "is_between", defArgs sis_between, defBody sis_between, defScope sis_between, [], []⟩,
  ⟨("are_wholes", none), "are_wholes", "are_wholes", defArgs sare_wholes, defBody sare_wholes, defScope sare_wholes, [], []⟩,
  ⟨("costs_behind", none), "costs_behind", "costs_behind", defArgs scosts_behind, defBody scosts_behind, defScope scosts_behind, [], []⟩,
  ⟨("_law_generator", none), "_law_generator", "_law_generator", defArgs s_generator, defBody s_generator, defScope s_generator, [], []⟩,
  ⟨("_law_random", none), "_law_random", "_law_random", defArgs s_random, defBody s_random, defScope s_random, [], []⟩,
  ⟨("_law_between", none), "_law_between", "_law_between", defArgs s_law_between, defBody s_law_between, defScope s_law_between, [], []⟩,
  ⟨("fits_width", none), "fits_width", "fits_width", defArgs sfits_width, defBody sfits_width, defScope sfits_width, [], []⟩,
  ⟨("fits_word", none), "fits_word", "fits_word", defArgs sfits_word, defBody sfits_word, defScope sfits_word, [], []⟩,
  ⟨("_law_good", none), "_law_good", "_law_good", defArgs s_law_good, defBody s_law_good, defScope s_law_good, [], []⟩,
  ⟨("_law_any", none), "_law_any", "_law_any", defArgs s_law_any, defBody s_law_any, defScope s_law_any, [], []⟩,
  ⟨("_law_bent", none), "_law_bent", "_law_bent", defArgs s_law_bent, defBody s_law_bent, defScope s_law_bent, [], []⟩,
  ⟨("ordered", none), "ordered", "ordered", defArgs sordered, defBody sordered, defScope sordered, [], []⟩,
  ⟨("_law_is_good", none), "_law_is_good", "_law_is_good", defArgs s_law_is_good, defBody s_law_is_good, defScope s_law_is_good, [], []⟩,
  ⟨("_law_places", none), "_law_places", "_law_places", defArgs s_law_places, defBody s_law_places, defScope s_law_places, [], []⟩,
  ⟨("_law_near", none), "_law_near", "_law_near", defArgs s_law_near, defBody s_law_near, defScope s_law_near, [], []⟩,
  ⟨("are_words", none), "are_words", "are_words", defArgs sare_words, defBody sare_words, defScope sare_words, [], []⟩,
  ⟨("need_width", none), "need_width", "need_width", defArgs sneed_width, defBody sneed_width, defScope sneed_width, [], []⟩,
  ⟨("_law_drawn", none), "_law_drawn", "_law_drawn", defArgs s_law_drawn, defBody s_law_drawn, defScope s_law_drawn, [], []⟩,
  ⟨("are_places", none), "are_places", "are_places", defArgs sare_places, defBody sare_places, defScope sare_places, [], []⟩,
  ⟨("need_places", none), "need_places", "need_places", defArgs sneed_places, defBody sneed_places, defScope sneed_places, [], []⟩,
  ⟨("good_order", none), "good_order", "good_order", defArgs sgood_order, defBody sgood_order, defScope sgood_order, [], []⟩,
  ⟨("is_good_order", none), "is_good_order", "is_good_order", defArgs sis_good_order, defBody sis_good_order, defScope sis_good_order, [], []⟩,
  ⟨("_law_right", none), "_law_right", "_law_right", defArgs s_law_right, defBody s_law_right, defScope s_law_right, [], []⟩,
  ⟨("law", none), "law", "law", defArgs slaw, defBody slaw, defScope slaw, [], []⟩]
def fa : List He.Fa := .glo "is_whole" :: .glo "twos_of" :: .glo "climbs" :: .glo "costs_at_first" :: .glo "_law_cell" :: .glo "_law_hash" :: .glo "_law_twos" :: .glo "_law_double" :: .glo "is_between" :: .glo "are_wholes" :: .glo "costs_behind" :: .glo "_law_generator" :: .glo "_law_random" :: .glo "_law_between" :: .glo "fits_width" :: .glo "fits_word" :: .glo "_law_good" :: .glo "_law_any" :: .glo "_law_bent" :: .glo "ordered" :: .glo "_law_is_good" :: .glo "_law_places" :: .glo "_law_near" :: .glo "are_words" :: .glo "need_width" :: .glo "_law_drawn" :: .glo "are_places" :: .glo "need_places" :: .glo "good_order" :: .glo "is_good_order" :: .glo "_law_right" :: .glo "law" :: .free "int" :: .free "bool" :: .free "list" :: .free "tuple" :: .free "dict" :: .free "isinstance" :: .free "all" :: .free "any" :: .free "len" :: .free "range" :: .free "sum" :: .free "max" :: .free "min" :: .free "sorted" :: .free "repr" :: .free "enumerate" :: .free "zip" :: .free "reversed" :: .free "abs" :: .int "WIDEST" 64 :: []
abbrev R : PySem.W.OpenRow := PySem.W.OpenLaw.row PySem.Challenge.rw_anyplaces_k05_whole_good_orders
abbrev hk : PySem.W.Hook := He.hookD 5 fa fn
def ob (s : PySem.W.SharedT) : He.AlD := He.obsDG 5 fa fn (HandSHeadRun.getT s)
theorem ob_eq (s : PySem.W.SharedT) : ob s = hk.obs s.abs := He.obsDG_eq (HandSHeadRun.getT_eq s)
abbrev loose : List Str := "CodeError" :: "InvalidWidth" :: "InvalidPlaces" :: "is_whole" :: "is_between" :: "fits_width" :: "fits_word" :: "twos_of" :: "are_wholes" :: "are_words" :: "climbs" :: "are_places" :: "need_width" :: "need_places" :: "costs_at_first" :: "costs_behind" :: "ordered" :: "good_order" :: "is_good_order" :: "_law_cell" :: "_law_hash" :: "_law_generator" :: "_law_random" :: "_law_places" :: "_law_double" :: "_law_near" :: "_law_drawn" :: "_law_twos" :: "_law_between" :: "_law_good" :: "_law_any" :: "_law_is_good" :: "_law_bent" :: "_law_right" :: "WIDEST" :: []
theorem run (w : World) : HandSHeadRun.RunEq R (PySem.W.view R.prog [41]) hk ob 8000 loose w := by
  intro os
  kernel_rfl
theorem facts {P : Program} {w : World} {K : PySem.W.Frag} {h : Heap} {mg : Str → Option Value} {f : Addr} (X : K.In h) (G : h.Ns mainGlobals mg) (hfa : mg ("law" : Str) = some (.ref f)) (c : He.SaysD fa fn K) :
    ∃ fd : FuncData, (∀ (s : Shared) (v : Value), BindsTo s fd ⟨[v], []⟩ [("_law_script", v)]) ∧ ∀ base : Heap, K.In base → base.Ns mainGlobals mg → FnG P w K mg base CX0 13 f fd ["_law_script"] (spLaw K) := by
  obtain ⟨d0, Z0⟩ := c.def_ 0 (d := _) rfl
  obtain ⟨d1, Z1⟩ := c.def_ 1 (d := _) rfl
  obtain ⟨d2, Z2⟩ := c.def_ 2 (d := _) rfl
  obtain ⟨d3, Z3⟩ := c.def_ 3 (d := _) rfl
  obtain ⟨d4, Z4⟩ := c.def_ 4 (d := _) rfl
  obtain ⟨d5, Z5⟩ := c.def_ 5 (d := _) rfl
  obtain ⟨d6, Z6⟩ := c.def_ 6 (d := _) rfl
  obtain ⟨d7, Z7⟩ := c.def_ 7 (d := _) rfl
  obtain ⟨d8, Z8⟩ := c.def_ 8 (d := _) rfl
  obtain ⟨d9, Z9⟩ := c.def_ 9 (d := _) rfl
  obtain ⟨d10, Z10⟩ := c.def_ 10 (d := _) rfl
  obtain ⟨d11, Z11⟩ := c.def_ 11 (d := _) rfl
  obtain ⟨d12, Z12⟩ := c.def_ 12 (d := _) rfl
  obtain ⟨d13, Z13⟩ := c.def_ 13 (d := _) rfl
  obtain ⟨d14, Z14⟩ := c.def_ 14 (d := _) rfl
  obtain ⟨d15, Z15⟩ := c.def_ 15 (d := _) rfl
  obtain ⟨d16, Z16⟩ := c.def_ 16 (d := _) rfl
  obtain ⟨d17, Z17⟩ := c.def_ 17 (d := _) rfl
  obtain ⟨d18, Z18⟩ := c.def_ 18 (d := _) rfl
  obtain ⟨d19, Z19⟩ := c.def_ 19 (d := _) rfl
  obtain ⟨d20, Z20⟩ := c.def_ 20 (d := _) rfl
  obtain ⟨d21, Z21⟩ := c.def_ 21 (d := _) rfl
  obtain ⟨d22, Z22⟩ := c.def_ 22 (d := _) rfl
  obtain ⟨d23, Z23⟩ := c.def_ 23 (d := _) rfl
  obtain ⟨d24, Z24⟩ := c.def_ 24 (d := _) rfl
  obtain ⟨d25, Z25⟩ := c.def_ 25 (d := _) rfl
  obtain ⟨d26, Z26⟩ := c.def_ 26 (d := _) rfl
  obtain ⟨d27, Z27⟩ := c.def_ 27 (d := _) rfl
  obtain ⟨d28, Z28⟩ := c.def_ 28 (d := _) rfl
  obtain ⟨d29, Z29⟩ := c.def_ 29 (d := _) rfl
  obtain ⟨d30, Z30⟩ := c.def_ 30 (d := _) rfl
  obtain ⟨d31, Z31⟩ := c.def_ 31 (d := _) rfl
  have glo : ∀ (i : Nat) (y : Str), fa[i]? = some (.glo y) → mg y = some (.ref (He.ga K y)) := fun i y e => He.glo_ok X G (c.fact i e)
  have free : ∀ (i : Nat) (y : Str), fa[i]? = some (.free y) → mg y = none := fun i y e => He.free_ok X G (c.fact i e)
  have T : TN mg := ⟨free 32 _ rfl, free 33 _ rfl, free 34 _ rfl, free 35 _ rfl, free 36 _ rfl, free 37 _ rfl, free 38 _ rfl, free 39 _ rfl, free 40 _ rfl, free 41 _ rfl, free 42 _ rfl, free 43 _ rfl, free 44 _ rfl, free 45 _ rfl, free 46 _ rfl, free 47 _ rfl, free 48 _ rfl, free 49 _ rfl, free 50 _ rfl⟩
  have IWIDEST := He.int_ok X G (x := "WIDEST") (i := 64) (c.fact 51 rfl)
  have e := hfa.symm.trans (glo 31 "law" rfl)
  cases e
  have bl := FunD.bindsA (ps := ["_law_script"]) Z31 fun _ _ _ _ _ _ us hl => match us, hl with | [_], _ => rfl
  refine ⟨d31, fun s v => bl s [v] rfl, fun base _ _ => ?_⟩
  have Fis_whole : Fo P w K mg base "is_whole" 1 ["value"] cWhole.sp := .mk' (qual := "is_whole") (st := sis_whole) Z0 (glo 0 _ rfl) (ok_is_whole Z0 T) (fun _ _ _ _ _ _ us hl => match us, hl with | [_], _ => rfl) (fun _ _ _ _ _ _ us hl => match us, hl with | [_], _ => rfl)
  have Ftwos_of : Fo P w K mg base "twos_of" 1 ["number"] cTwosIn.sp := .mk' (qual := "twos_of") (st := stwos_of) Z1 (glo 1 _ rfl) (ok_twos_of Z1 T) (fun _ _ _ _ _ _ us hl => match us, hl with | [_], _ => rfl) (fun _ _ _ _ _ _ us hl => match us, hl with | [_], _ => rfl)
  have Fclimbs : Fo P w K mg base "climbs" 1 ["numbers"] cClimbs.sp := .mk' (qual := "climbs") (st := sclimbs) Z2 (glo 2 _ rfl) (ok_climbs Z2 T) (fun _ _ _ _ _ _ us hl => match us, hl with | [_], _ => rfl) (fun _ _ _ _ _ _ us hl => match us, hl with | [_], _ => rfl)
  have Fcosts_at_first : Fo P w K mg base "costs_at_first" 1 ["places"] cCosts0.sp := .mk' (qual := "costs_at_first") (st := scosts_at_first) Z3 (glo 3 _ rfl) (ok_costs_at_first Z3 T) (fun _ _ _ _ _ _ us hl => match us, hl with | [_], _ => rfl) (fun _ _ _ _ _ _ us hl => match us, hl with | [_], _ => rfl)
  have F_law_cell : Fo P w K mg base "_law_cell" 1 ["_law_script", "_law_index"] (spCellA K) := .mk' (qual := "_law_cell") (st := s_cell) Z4 (glo 4 _ rfl) (ok_cell Z4 ⟨T.b_int, T.b_len, T.b_sum, T.b_max, T.b_range⟩) (fun _ _ _ _ _ _ us hl => match us, hl with | [_, _], _ => rfl) (fun _ _ _ _ _ _ us hl => match us, hl with | [_, _], _ => rfl)
  have F_law_hash : Fo P w K mg base "_law_hash" 1 ["_law_seed", "_law_index"] spHash := .mk' (qual := "_law_hash") (st := s_hash) Z5 (glo 5 _ rfl) (ok_hash Z5 ⟨T.b_int, T.b_len, T.b_sum, T.b_max, T.b_range⟩) (fun _ _ _ _ _ _ us hl => match us, hl with | [_, _], _ => rfl) (fun _ _ _ _ _ _ us hl => match us, hl with | [_, _], _ => rfl)
  have F_law_twos : Fo P w K mg base "_law_twos" 1 ["_law_number"] cTwosL.sp := .mk' (qual := "_law_twos") (st := s_law_twos) Z6 (glo 6 _ rfl) (ok_law_twos Z6 T) (fun _ _ _ _ _ _ us hl => match us, hl with | [_], _ => rfl) (fun _ _ _ _ _ _ us hl => match us, hl with | [_], _ => rfl)
  have F_law_double : Fo P w K mg base "_law_double" 1 ["_law_many"] cDouble.sp := .mk' (qual := "_law_double") (st := s_law_double) Z7 (glo 7 _ rfl) (ok_law_double Z7 T) (fun _ _ _ _ _ _ us hl => match us, hl with | [_], _ => rfl) (fun _ _ _ _ _ _ us hl => match us, hl with | [_], _ => rfl)
  have Fis_between : Fo P w K mg base "is_between" 2 ["value", "low", "high"] cBetween.sp := .mk' (qual := "is_between") (st := sis_between) Z8 (glo 8 _ rfl) (ok_is_between Z8 T Fis_whole) (fun _ _ _ _ _ _ us hl => match us, hl with | [_, _, _], _ => rfl) (fun _ _ _ _ _ _ us hl => match us, hl with | [_, _, _], _ => rfl)
  have Fare_wholes : Fo P w K mg base "are_wholes" 2 ["value"] cAreWholes.sp := .mk' (qual := "are_wholes") (st := sare_wholes) Z9 (glo 9 _ rfl) (ok_are_wholes Z9 T Fis_whole) (fun _ _ _ _ _ _ us hl => match us, hl with | [_], _ => rfl) (fun _ _ _ _ _ _ us hl => match us, hl with | [_], _ => rfl)
  have Fcosts_behind : Fo P w K mg base "costs_behind" 2 ["costs", "taken"] cBehind.sp := .mk' (qual := "costs_behind") (st := scosts_behind) Z10 (glo 10 _ rfl) (ok_costs_behind Z10 T Ftwos_of) (fun _ _ _ _ _ _ us hl => match us, hl with | [_, _], _ => rfl) (fun _ _ _ _ _ _ us hl => match us, hl with | [_, _], _ => rfl)
  have F_law_generator : Fo P w K mg base "_law_generator" 2 ["_law_script", "_law_index"] (spGenerator K) := .mk' (qual := "_law_generator") (st := s_generator) Z11 (glo 11 _ rfl) (ok_generator Z11 ⟨T.b_int, T.b_len, T.b_sum, T.b_max, T.b_range⟩ Z4 (glo 4 _ rfl) (FunD.bindsN Z4 fun _ _ _ _ _ _ us hl => match us, hl with | [_, _], _ => rfl)) (fun _ _ _ _ _ _ us hl => match us, hl with | [_, _], _ => rfl) (fun _ _ _ _ _ _ us hl => match us, hl with | [_, _], _ => rfl)
  have F_law_random : Fo P w K mg base "_law_random" 2 ["_law_generator_here", "_law_limit"] cRandom.sp := .mk' (qual := "_law_random") (st := s_random) Z12 (glo 12 _ rfl) (random_con (ok_random Z12 ⟨T.b_int, T.b_len, T.b_sum, T.b_max, T.b_range⟩ Z5 (glo 5 _ rfl) (FunD.bindsN Z5 fun _ _ _ _ _ _ us hl => match us, hl with | [_, _], _ => rfl))) (fun _ _ _ _ _ _ us hl => match us, hl with | [_, _], _ => rfl) (fun _ _ _ _ _ _ us hl => match us, hl with | [_, _], _ => rfl)
  have F_law_between : Fo P w K mg base "_law_between" 2 ["_law_row", "_law_place"] cBetw5.sp := .mk' (qual := "_law_between") (st := s_law_between) Z13 (glo 13 _ rfl) (ok_law_between Z13 T F_law_twos) (fun _ _ _ _ _ _ us hl => match us, hl with | [_, _], _ => rfl) (fun _ _ _ _ _ _ us hl => match us, hl with | [_, _], _ => rfl)
  have Ffits_width : Fo P w K mg base "fits_width" 3 ["value"] cFitsWidth.sp := .mk' (qual := "fits_width") (st := sfits_width) Z14 (glo 14 _ rfl) (ok_fits_width Z14 T IWIDEST Fis_between) (fun _ _ _ _ _ _ us hl => match us, hl with | [_], _ => rfl) (fun _ _ _ _ _ _ us hl => match us, hl with | [_], _ => rfl)
  have Ffits_word : Fo P w K mg base "fits_word" 3 ["width", "value"] cFitsWord.sp := .mk' (qual := "fits_word") (st := sfits_word) Z15 (glo 15 _ rfl) (ok_fits_word Z15 T Fis_between) (fun _ _ _ _ _ _ us hl => match us, hl with | [_, _], _ => rfl) (fun _ _ _ _ _ _ us hl => match us, hl with | [_, _], _ => rfl)
  have F_law_good : Fo P w K mg base "_law_good" 3 ["_law_places_here"] cGood5.sp := .mk' (qual := "_law_good") (st := s_law_good) Z16 (glo 16 _ rfl) (ok_law_good Z16 T F_law_between) (fun _ _ _ _ _ _ us hl => match us, hl with | [_], _ => rfl) (fun _ _ _ _ _ _ us hl => match us, hl with | [_], _ => rfl)
  have F_law_any : Fo P w K mg base "_law_any" 3 ["_law_generator_here", "_law_places_here"] cAny5.sp := .mk' (qual := "_law_any") (st := s_law_any) Z17 (glo 17 _ rfl) (ok_law_any Z17 T F_law_between F_law_random) (fun _ _ _ _ _ _ us hl => match us, hl with | [_, _], _ => rfl) (fun _ _ _ _ _ _ us hl => match us, hl with | [_, _], _ => rfl)
  have F_law_bent : Fo P w K mg base "_law_bent" 3 ["_law_generator_here", "_law_order"] cBent5.sp := .mk' (qual := "_law_bent") (st := s_law_bent) Z18 (glo 18 _ rfl) (ok_law_bent Z18 T F_law_random) (fun _ _ _ _ _ _ us hl => match us, hl with | [_, _], _ => rfl) (fun _ _ _ _ _ _ us hl => match us, hl with | [_, _], _ => rfl)
  have Fordered : Fo P w K mg base "ordered" 3 ["places"] cOrderedP.spN := .mk' (qual := "ordered") (st := sordered) Z19 (glo 19 _ rfl) (ok_orderedN Z19 T Fcosts_at_first Fcosts_behind) (fun _ _ _ _ _ _ us hl => match us, hl with | [_], _ => rfl) (fun _ _ _ _ _ _ us hl => match us, hl with | [_], _ => rfl)
  have F_law_is_good : Fo P w K mg base "_law_is_good" 3 ["_law_places_here", "_law_value"] cJudgeD.sp := .mk' (qual := "_law_is_good") (st := s_law_is_good) Z20 (glo 20 _ rfl) (ok_law_is_good Z20 T F_law_between) (fun _ _ _ _ _ _ us hl => match us, hl with | [_, _], _ => rfl) (fun _ _ _ _ _ _ us hl => match us, hl with | [_, _], _ => rfl)
  have F_law_places : Fo P w K mg base "_law_places" 3 ["_law_generator_here", "_law_width", "_law_size"] cDPlaces.sp := .mk' (qual := "_law_places") (st := s_law_places) Z21 (glo 21 _ rfl) (ok_law_places Z21 T F_law_random F_law_double) (fun _ _ _ _ _ _ us hl => match us, hl with | [_, _, _], _ => rfl) (fun _ _ _ _ _ _ us hl => match us, hl with | [_, _, _], _ => rfl)
  have F_law_near : Fo P w K mg base "_law_near" 3 ["_law_generator_here", "_law_width", "_law_size"] cNear.sp := .mk' (qual := "_law_near") (st := s_law_near) Z22 (glo 22 _ rfl) (ok_law_near Z22 T F_law_random F_law_double) (fun _ _ _ _ _ _ us hl => match us, hl with | [_, _, _], _ => rfl) (fun _ _ _ _ _ _ us hl => match us, hl with | [_, _, _], _ => rfl)
  have Fare_words : Fo P w K mg base "are_words" 4 ["width", "value"] cAreWords.sp := .mk' (qual := "are_words") (st := sare_words) Z23 (glo 23 _ rfl) (ok_are_words Z23 T Ffits_word) (fun _ _ _ _ _ _ us hl => match us, hl with | [_, _], _ => rfl) (fun _ _ _ _ _ _ us hl => match us, hl with | [_, _], _ => rfl)
  have Fneed_width : Fo P w K mg base "need_width" 4 ["width"] cNeedWidth.sp := .mk' (qual := "need_width") (st := sneed_width) Z24 (glo 24 _ rfl) (ok_need_width Z24 T Ffits_width) (fun _ _ _ _ _ _ us hl => match us, hl with | [_], _ => rfl) (fun _ _ _ _ _ _ us hl => match us, hl with | [_], _ => rfl)
  have F_law_drawn : Fo P w K mg base "_law_drawn" 4 ["_law_generator_here", "_law_width", "_law_most"] cDrawn.sp := .mk' (qual := "_law_drawn") (st := s_law_drawn) Z25 (glo 25 _ rfl) (ok_law_drawn Z25 T F_law_random F_law_double F_law_near F_law_places) (fun _ _ _ _ _ _ us hl => match us, hl with | [_, _, _], _ => rfl) (fun _ _ _ _ _ _ us hl => match us, hl with | [_, _, _], _ => rfl)
  have Fare_places : Fo P w K mg base "are_places" 5 ["width", "value"] cArePlaces.sp := .mk' (qual := "are_places") (st := sare_places) Z26 (glo 26 _ rfl) (ok_are_places Z26 T Fare_words Fclimbs) (fun _ _ _ _ _ _ us hl => match us, hl with | [_, _], _ => rfl) (fun _ _ _ _ _ _ us hl => match us, hl with | [_, _], _ => rfl)
  have Fneed_places : Fo P w K mg base "need_places" 6 ["width", "places"] cNeedPlaces.sp := .mk' (qual := "need_places") (st := sneed_places) Z27 (glo 27 _ rfl) (ok_need_places Z27 T Fare_places) (fun _ _ _ _ _ _ us hl => match us, hl with | [_, _], _ => rfl) (fun _ _ _ _ _ _ us hl => match us, hl with | [_, _], _ => rfl)
  have Fgood_order : Fo P w K mg base "good_order" 7 ["width", "places"] cGoodP.spN := .mk' (qual := "good_order") (st := sgood_order) Z28 (glo 28 _ rfl) (ok_good_orderN Z28 T Fneed_width Fneed_places Fordered) (fun _ _ _ _ _ _ us hl => match us, hl with | [_, _], _ => rfl) (fun _ _ _ _ _ _ us hl => match us, hl with | [_, _], _ => rfl)
  have Fis_good_order : Fo P w K mg base "is_good_order" 7 ["width", "places", "value"] cGoodD.sp := .mk' (qual := "is_good_order") (st := sis_good_order) Z29 (glo 29 _ rfl) (ok_is_good_order Z29 T Fneed_width Fneed_places Fcosts_at_first Fcosts_behind Fare_wholes) (fun _ _ _ _ _ _ us hl => match us, hl with | [_, _, _], _ => rfl) (fun _ _ _ _ _ _ us hl => match us, hl with | [_, _, _], _ => rfl)
  have F_law_right : FoG P w K mg base "_law_right" 12 ["_law_generator_here", "_law_width"] cRight5.sp := .mk' (qual := "_law_right") (st := s_law_right) Z30 (glo 30 _ rfl) (ok_law_right Z30 T F_law_drawn Fgood_order F_law_any F_law_good F_law_bent Fis_good_order F_law_is_good) (fun _ _ _ _ _ _ us hl => match us, hl with | [_, _], _ => rfl)
  exact ok_law Z31 T F_law_generator F_law_random F_law_right Fgood_order Fis_good_order F_law_good
end K05
open PySem PySem.W PySem.Calls PyProof.Rows
theorem PySem.Challenge.cw_anyplaces_k05_whole_good_orders_holds : PySem.Challenge.rw_anyplaces_k05_whole_good_orders.Holds := by
  w_on; o_law
  refine HandSHeadRun.head_any (r := OpenLaw.row PySem.Challenge.rw_anyplaces_k05_whole_good_orders) (q := view (OpenLaw.row PySem.Challenge.rw_anyplaces_k05_whole_good_orders).prog [41]) (H := K05.hk) (ob := K05.ob) (M := 8000) (loose := K05.loose) (d := HandSHeadRun.topDef (OpenLaw.row PySem.Challenge.rw_anyplaces_k05_whole_good_orders).prog 41) (kwd := []) K05.ob_eq
    (by kernel_rfl) (fun s => by kernel_rfl) K05.run (by kernel_rfl) (by kernel_rfl) (by kernel_rfl) (by rfl) (by first | assumption | decide +kernel) (by decide +kernel) ⟨rfl, rfl, rfl, rfl, rfl, by decide +kernel⟩ ?hw ?hc
  case hw => w_witness2
  case hc =>
    refine AP.walk_G (l := PySem.Challenge.rw_anyplaces_k05_whole_good_orders) (n := 63) (k := 13) (x := "_law_script") rfl (by decide) (by kernel_rfl) ⟨rfl, by decide, by decide⟩ ?F
    intro w mg fa h Y G hmg0
    obtain ⟨K, KX, c⟩ := Y
    have hmg : mg ("law" : PySem.Str) = some (.ref fa) := by
      have e : (HandSHeadRun.topDef (OpenLaw.row PySem.Challenge.rw_anyplaces_k05_whole_good_orders).prog 41).name = ("law" : PySem.Str) := by kernel_rfl
      rw [← e]
      exact hmg0
    obtain ⟨fd, hb, hF⟩ := K05.facts (P := (PySem.Challenge.rw_anyplaces_k05_whole_good_orders).prog) (w := w) KX G hmg c
    exact ⟨K, fd, AP.spLaw K, KX, hb, fun H a ns hl _ hS => ⟨a, ns, rfl, hS, fun _ => rfl⟩, hF⟩
