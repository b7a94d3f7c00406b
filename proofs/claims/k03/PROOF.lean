import PyProof.Rows.All
import Wide.All
import OpenK.AllK
import Wide.FinOn
import PyProof.EqAt
import PyProof.EqKinds
import PyProof.TupleCall
import PyProof.ReprRoads
import PyProof.ReprLen
import HandS.ForMost
import HandS.ForExc
import HandS.ExcInit
import HandS.ExcValue
import HandS.Defaults
import HandS.Wide
import HandS.WideBits
import HandS.Evl
import KE.KExcIs
import HandS.More
import PySem.Challenge.RW_anyplaces_k03_errors_by_their_classes
import KE.KStateDown
import Lean
import HandS.MakeKw
import HandS.Head0
import HandS.Head1
import HandS.Head2
import HandS.HeadEnd
import HandS.HeadHook1
import HandS.HeadHook2
set_option Elab.async false
set_option linter.all false
set_option maxRecDepth 100000
set_option maxHeartbeats 4000000
/-! Rules that the laws of anyplaces want beside the layer's own. -/
namespace AP
open PySem PySem.Spec PyProof.Rows L2

/-! ### a power of any size -/
def PowOk (i j : Int) : Prop := 0 ≤ j ∧ (Builtin.Int.intBits i : Int) * j ≤ 2 ^ 27
theorem op_powW {X : Cx} : OpR X (binaryOp .Pow) (rI PowOk fun i j => .int (i ^ j.toNat)) :=
  opI fun _ _ _ _ _ _ _ ok go => pow_int ok.1 ok.2 go

/-! ### a def that is called where no repr is under way -/
structure FnG (P : Program) (w : World) (K : PySem.W.Frag) (mg : Str → Option Value) (base : Heap) (CX : CXT)
    (k : Nat) (f : Addr) (fd : FuncData) (ps : List Str) (sp : Sp) : Prop where
  size : ∀ vs H Q E, sp vs H Q E → vs.length = ps.length
  goes : ∀ (A : Around) (outer : List Env) (s : Shared) (H : Hp) (args : Args) (us : List Value) (vs : List V) (Q : VK) (E : XK),
    A.guards = some [] → Room k A → Env0 P w K mg base A outer s H → BindsTo s fd args (ps.zip us) → Vals vs us →
      sp vs H Q E → codeAny (model P w) A (.call (.ref f) args) (CR CX outer P w H s Q E) s
theorem FnG.of {P : Program} {w : World} {K : PySem.W.Frag} {mg : Str → Option Value} {base : Heap} {CX : CXT} {k : Nat} {f : Addr} {fd : FuncData} {ps : List Str} {sp : Sp}
    (F : FnOk P w K mg base CX k f fd ps sp) : FnG P w K mg base CX k f fd ps sp :=
  ⟨F.len, fun A outer s H args us vs Q E _ r e b v h => F.run A outer s H args us vs Q E r e b v h⟩

theorem guards_deeper (A : Around) (env : Env) : (A.deeper env).guards = A.guards := rfl

section
variable {P : Program} {w : World} {K : PySem.W.Frag} {mg : Str → Option Value} {base : Heap}
/-- a def of the text as it stands behind the top, dvs its defaults -/
abbrev Df (K : PySem.W.Frag) (x qual : Str) (st : Stmt) (dvs : List V) (f : Addr) (fd : FuncData) : Prop :=
  FunD K x qual (defArgs st) (defBody st) (defScope st) dvs [] f fd
theorem Df.go {x qual : Str} {st : Stmt} {dvs : List V} {f : Addr} {fd : FuncData} {N ps : List Str} {k : Nat} {sp : Sp}
    (F : Df K x qual st dvs f fd) (S : FnScope N ps (defScope st)) (size : ∀ vs H Q E, sp vs H Q E → vs.length = ps.length)
    (body : ∀ (cdv : Value) (A : Around) (outer : List Env) (s : Shared) (H : Hp) (vs : List V) (Q : VK) (E : XK),
      Room k (A.deeper (envOfC qual (defScope st) s.heap.objs.size f cdv)) → sp vs H Q E →
        ∃ t, PSs (cxOf CX0 P w K mg base N qual (defScope st) f cdv A outer s H E).nox (defBody st) t ∧
          t { nx := fun _ H' => Q .non H', rt := Q } (start N vs) H) :
    FnOk P w K mg base CX0 (k + 1) f fd ps sp :=
  FunD.ok F S size fun cdv A outer s H vs Q E hr h => by
    obtain ⟨t, ht, hq⟩ := body cdv A outer s H vs Q E hr h
    exact ⟨t, ht.nox, hq⟩
theorem Df.goG {x qual : Str} {st : Stmt} {dvs : List V} {f : Addr} {fd : FuncData} {N ps : List Str} {k : Nat} {sp : Sp}
    (F : Df K x qual st dvs f fd) (S : FnScope N ps (defScope st)) (size : ∀ vs H Q E, sp vs H Q E → vs.length = ps.length)
    (body : ∀ (cdv : Value) (A : Around) (outer : List Env) (s : Shared) (H : Hp) (vs : List V) (Q : VK) (E : XK),
      (A.deeper (envOfC qual (defScope st) s.heap.objs.size f cdv)).guards = some [] →
      Room k (A.deeper (envOfC qual (defScope st) s.heap.objs.size f cdv)) → sp vs H Q E →
        ∃ t, PSs (cxOf CX0 P w K mg base N qual (defScope st) f cdv A outer s H E).nox (defBody st) t ∧
          t { nx := fun _ H' => Q .non H', rt := Q } (start N vs) H) :
    FnG P w K mg base CX0 (k + 1) f fd ps sp := by
  obtain ⟨oc, od, dV, kV, doc, pm, an, cdv, ct, osl, rfl, there, code, _, _⟩ := F.ex
  refine ⟨size, fun A outer s H args us vs Q E noG room env0 bind vals want => ?_⟩
  have many := size _ _ _ _ want
  have inK : K.In s.heap := env0.mod.kin.keeps fun b o e => (env0.bs b o e).1
  have lim : s.heap.NoLimit := env0.mod.nolimit.keeps fun b o e => (env0.bs b o e).1
  have kinds : ∀ y ∈ ps.zip us, (defScope st).names.lookup y.1 = some .local ∨
      ((defScope st).names.lookup y.1 = some .cell ∧
        ((cellsFrom (s.heap.objs.size + 1) (defScope st).names []).lookup y.1).isSome = true) := by
    rintro ⟨n, v⟩ hy
    rcases S.par n (List.of_mem_zip hy).1 with q | q
    · exact .inl q
    · exact .inr ⟨q, PySem.W.cellsFrom_some _ _ _ (.inl q)⟩
  refine codeAny_call_function room.depth (inK _ _ there) rfl S.co S.gen rfl
    (PySem.W.codeRec_of inK code) (bind _ _ _ _ ?_)
  refine wpAny_newFunctionEnv_cells S.kind kinds fun env eenv s1 call => ?_
  subst eenv
  refine ⟨lim.keeps call.toInCall.keep, codeAny_func ?_⟩
  obtain ⟨t, ht, hq⟩ := body cdv A outer s H vs Q E noG (room.deeper _) want
  have J := inv_start (CX := CX0) (E := E) S room.hd env0 many vals call
  refine wpAny_mono (ht.nox.run [] s1 (start N vs) H _ J hq) (fun fl s' hs => ?_) fun e s' hs => hs
  cases fl with
  | ret u =>
    obtain ⟨v, σ', H', I, rv, q⟩ := hs
    exact ⟨v, H', I.os, I.bare, I.base, I.hok, rv, q⟩
  | next =>
    obtain ⟨σ', H', I, q⟩ := hs
    exact ⟨V.non, H', I.os, I.bare, I.base, I.hok, rfl, q⟩
  | brk =>
    obtain ⟨_, _, _, q⟩ := hs
    exact q.elim
  | cont =>
    obtain ⟨_, _, _, q⟩ := hs
    exact q.elim
end

section
variable {X : Cx} {CX : CXT} {k : Nat} {f : Addr} {fd : FuncData} {ps : List Str} {sp : Sp} {dvs : List V} {ds : List Value} {E : XK} {x : Str} {p pos : Pos} {e : Expr} {es : List Expr} {t : TA}
theorem run_g {pins : List (Addr × Obj)} {σ : L2.St} {H : Hp} {s : Shared} {Q : VK} {us : List Value} {vs : List V}
    (F : FnG X.prog X.w X.K X.mg X.base CX k f fd ps sp) (ng : X.A.guards = some []) (hr : Room k X.A)
    (hb : Binds X.K fd ps ds) (hd : Vals dvs ds) (hx : Passes CX X E) (I : Inv X pins σ H s) (r : Vals vs us)
    (h : sp (vs ++ dvs) H Q E) : wpAny (model X.prog X.w) X.A (call (.ref f) us) (EP X pins σ Q) X.xe s := by
  have both : Vals (vs ++ dvs) (us ++ ds) := r.append hd
  have many : (us ++ ds).length = ps.length := both.length.symm.trans (F.size _ _ _ _ h)
  refine wpAny_call (codeAny_mono (F.goes X.A X.stack s H ⟨us, []⟩ (us ++ ds) (vs ++ dvs) Q E ng hr I.env0
    (hb s us I.kIn many) both h) fun res s' hq => ?_)
  cases res with
  | error er => exact hx pins σ H s er s' I hq
  | ok fl =>
    cases fl with
    | ret u => exact I.after hq
    | next => exact hq.elim
    | brk => exact hq.elim
    | cont => exact hq.elim
theorem pe_callG (F : FnG X.prog X.w X.K X.mg X.base CX k f fd ps sp) (ng : X.A.guards = some []) (hr : Room k X.A)
    (hg : Gl X x) (hm : X.mg x = some (.ref f)) (hk : PySem.W.keepIn X.K (.ref f) = true) (hb : Binds X.K fd ps ds)
    (hd : Vals dvs ds) (hx : Passes CX X E) (ha : PA X (e :: es) t) (hdb : (x == ("__debug__" : Str)) = false := by decide)
    (he : starEach (e :: es) X.env = (false, eval e X.env) :: starEach es X.env := by rfl)
    (hpl : (backTo pos (starEach es X.env)).any (·.1) = false := by rfl) :
    PE X (.Call (.Name x p) (e :: es) [] pos) (tCall sp dvs E t) := by
  refine ⟨fun pins s σ H Q I h => wpAny_Call_Name_kw (ld_glob I hg hm ?_ hdb)⟩
  exact PySem.W.callWith_K (h₀ := X.base) I.ok.mod.kin hk
    (thn (ha.run pos pins s σ H _ I h) fun us s1 ⟨vs, H1, I1, r, q⟩ => ⟨I1.kIn, run_g F ng hr hb hd hx I1 r q⟩) he hpl
end

/-! ### repr of data -/
section
variable {X : Cx} {pins : List (Addr × Obj)} {σ : L2.St} {H : Hp} {s : Shared}
/-- repr(x): the text of its data -/
def rRepr (K : PySem.W.Frag) : List V → Hp → VK → Prop := fun xs H Q => ∃ (v : V) (d : PyData), xs = [v] ∧ Dp K H v d ∧
  d.showable = true ∧ d.hasDict = false ∧ d.depth ≤ 60 ∧ d.shown.length ≤ sizeLine ∧ Q (.str d.shown) H
theorem call_reprD (ng : X.A.guards = some []) (hu : X.A.units + 64 < cLine) : CallR X (.builtin "repr") (rRepr X.K) := by
  intro pins s σ H xs us Q I r h
  obtain ⟨v, d, rfl, hd, hs, hn, hdep, hsz, q⟩ := h
  obtain ⟨u, rfl, ru⟩ := vals1 r
  obtain ⟨as, rd⟩ := Dp.reads I d v u hd ru
  cases hd with
  | non => cases ru; exact PySem.P.repr_of_none ⟨.str _, H, I.tok _, ⟨_, rfl⟩, q⟩
  | bl b =>
    cases ru
    exact PySem.P.repr_of_bool ⟨.str _, H, I.tok _, ⟨_, rfl⟩, q⟩
  | int i =>
    obtain ⟨t, rfl⟩ := ru
    exact PySem.P.repr_of_int (of_decide_eq_true hs) ⟨.str _, H, I.tok _, ⟨_, rfl⟩, q⟩
  | str z =>
    obtain ⟨t, rfl⟩ := ru
    exact PySem.P.repr_of_str ⟨.str _, H, I.tok _, ⟨_, rfl⟩, q⟩ hsz
  | lst a b =>
    cases ru
    exact repr_of_reads' rd hs (fun z => by rw [hn] at z; cases z) ng (by omega) (fun _ _ e => e)
      (fun h' t tk hk => ⟨.str _, H, I.kept (t' := tk) hk, ⟨t, rfl⟩, q⟩) hsz
  | tup a b =>
    cases ru
    exact repr_of_reads' rd hs (fun z => by rw [hn] at z; cases z) ng (by omega) (fun _ _ e => e)
      (fun h' t tk hk => ⟨.str _, H, I.kept (t' := tk) hk, ⟨t, rfl⟩, q⟩) hsz
/-- repr of a dict of numbers by a text -/
def oneD (z : Str) (n : Int) : PyData := .dict [(.str z, .int n)]
def rReprD : List V → Hp → VK → Prop := fun xs H Q => ∃ (a : Addr) (z : Str) (n : Int), xs = [.ref a] ∧ H a = some (.dK [(Sum.inr z, .int n)]) ∧
  (oneD z n).showable = true ∧ (oneD z n).shown.length ≤ sizeLine ∧ Q (.str (oneD z n).shown) H
theorem one_reads {a : Addr} {z : Str} {n : Int} (I : Inv X pins σ H s) (h : H a = some (.dK [(Sum.inr z, .int n)])) : Reads s.heap (.ref a) (oneD z n) [a] ∧ a ≠ sysModules := by
  obtain ⟨_, ns, vs, kv, o, es, ep, ho, hx, hd, _, hp, _⟩ := (show ObjOk X.prog X.w H s.heap a (.dK [(Sum.inr z, V.int n)]) from I.hok a _ h)
  refine ⟨?_, fun q => by rw [q] at ns; exact absurd ns (by decide)⟩
  cases kv with
  | @cons p q ps qs h1 h2 =>
    cases h2
    obtain ⟨k, u⟩ := q
    obtain ⟨e1, e2⟩ := h1
    obtain ⟨t, rfl⟩ := e2
    cases (show Sum.inr z = k from e1)
    generalize hl : es.toList = l at hp
    cases hp with
    | @cons e kv es' kvs' i1 i2 i3 =>
      cases i3
      have ik : keyIs (Sum.inr z) e.key = true := i1
      rcases keyIs_shape ik with ⟨i, t', q, _⟩ | ⟨z', t', q, ek⟩
      · cases q
      · cases q
        refine Reads.dict (as := []) (bs := []) ho hx.1 hd ?_ ?_
        · rw [hl]
          show ReadsAll s.heap [e.key] [PyData.str z] ([] ++ [])
          rw [ek]
          exact .cons (.str z t') .nil
        · rw [hl]
          show ReadsAll s.heap [e.val] [PyData.int n] ([] ++ [])
          rw [show e.val = Value.int n t from i2]
          exact .cons (.int n t) .nil
theorem call_reprO (ng : X.A.guards = some []) (hu : X.A.units + 64 < cLine) : CallR X (.builtin "repr") rReprD := by
  intro pins s σ H xs us Q I r h
  obtain ⟨a, z, n, rfl, hd, hs, hsz, q⟩ := h
  obtain ⟨u, rfl, ru⟩ := vals1 r
  cases ru
  obtain ⟨rd, ns⟩ := one_reads I hd
  exact repr_of_reads' rd hs (fun _ m => by cases m with | head => exact ns rfl | tail _ z => cases z) ng
    (by have e : (oneD z n).depth = 1 := by simp [oneD, PyData.depth, PyData.depthKv]
        omega) (fun _ _ e => e) (fun h' t tk hk => ⟨.str _, H, I.kept (t' := tk) hk, ⟨t, rfl⟩, q⟩) hsz
theorem CallR.or {f : Value} {r r' : List V → Hp → VK → Prop} (h : CallR X f r) (h' : CallR X f r') : CallR X f (fun xs H Q => r xs H Q ∨ r' xs H Q) := by
  intro pins s σ H xs us Q I rv hh
  rcases hh with hh | hh
  · exact h pins s σ H xs us Q I rv hh
  · exact h' pins s σ H xs us Q I rv hh
end

/-! ### the end of a law whose def is kept by FnG -/
section
variable {P : Program} {w : World} {K : PySem.W.Frag} {mg mb : Str → Option Value} {k : Nat} {fa a : Addr} {fd : FuncData} {x : Str} {sp : Sp} {s1 : Shared} {vs : List Value} {ns : List Int}
/-- what the law's call has to come to -/
def Good (s1 : Shared) : Result → Shared → Prop := fun r s' =>
  r = .ok (.ret (.bool true)) ∧ OldK s1.heap s'.heap ∧ s'.os = s1.os ∧ AllBare s'.gens
theorem law_from (KX : K.In s1.heap) (hns : s1.heap.Ns mainGlobals mg) (hb : s1.heap.Ns builtinsNs mb)
    (hbb : ∀ y : Str, y ≠ "__name__" → mb y = bootBuiltins y) (hlim : s1.heap.NoLimit) (hg : s1.gens = #[])
    (ha : s1.heap.get? a = some { cls := .type "list", data := .seq vs.toArray }) (hr : Room k callerA)
    (F : ∀ base : Heap, K.In base → base.Ns mainGlobals mg → FnG P w K mg base CX0 k fa fd [x] sp)
    (bind : ∀ (s : Shared) (u : Value), BindsTo s fd ⟨[u], []⟩ [(x, u)])
    (H : Hp) (only : Only H) (want : sp [.ref a] H (fun v _ => v = .bl true) fun _ _ _ => False) (hok : HOk P w H s1.heap)
    (alone : ∀ b u, H b = some u → b = a) (apart : ∀ u, H a = some u → K.lookup a = none) :
    codeAny (model P w) callerA (.call (.ref fa) ⟨[.ref a], []⟩) (Good s1) s1 := by
  -- a dict is not the script
  have dct : ∀ {b : Addr} {o : Obj} {es : Array DictEntry} {ep : Nat}, s1.heap.get? b = some o → o.data = .dict es ep → H b = none := by
    intro b o es ep e d
    cases q : H b with
    | none => rfl
    | some u =>
      cases alone b u q
      rw [ha] at e
      cases e
      cases (show Data.seq vs.toArray _ = Data.dict es ep from d)
  have nsB : ∀ {b : Addr} {m : Str → Option Value}, s1.heap.Ns b m → (hidT s1.heap H).Ns b m := by
    rintro b m ⟨o, es, ep, e, d, r⟩
    exact ⟨o, es, ep, hidT_get e (dct e d), d, r⟩
  have inB : K.In (hidT s1.heap H) := by
    intro b o e
    refine hidT_get (KX b o e) ?_
    cases q : H b with
    | none => rfl
    | some u =>
      cases alone b u q
      rw [apart u q] at e
      cases e
  have mod : Mod K mg (hidT s1.heap H) := by
    obtain ⟨mc, l1, l2⟩ := hlim
    exact ⟨inB, nsB hns, ⟨mb, nsB hb, hbb⟩, mc, nsB l1, l2⟩
  have env : Env0 P w K mg (hidT s1.heap H) callerA [] s1 H :=
    ⟨rfl, mod, fun b o e => of_hidT e, Nat.le_of_eq (hidT_size _ _), trivial, fun b hb => absurd (show b ∈ ([] : List Addr) from hb) (by simp), hok, .of_eq hg⟩
  have run := (F _ inB (nsB hns)).goes callerA [] s1 H ⟨[.ref a], []⟩ [.ref a] [.ref a] _ _ rfl hr env (bind s1 (.ref a)) (.cons rfl .nil) want
  refine codeAny_mono run fun r s' h => ?_
  cases r with
  | error e => exact False.elim h
  | ok fl =>
    cases fl with
    | next => exact False.elim h
    | brk => exact False.elim h
    | cont => exact False.elim h
    | ret u =>
      obtain ⟨v, H', os, bare, un, hok', rv, q⟩ := h
      cases (show v = V.bl true from q)
      obtain rfl : u = Value.bool true := rv
      refine ⟨rfl, OldK.of_keep fun b o e => ?_, os, bare⟩
      rcases only b with n | ⟨ob, xs, z⟩
      · exact un.keep b o e n (by intro m; exact absurd (show b ∈ ([] : List Addr) from m) (by simp)) (by simp)
      · have then_ := un.frzs b ob _ z
        obtain ⟨e1, _⟩ := hok b _ z
        obtain ⟨e2, _⟩ := hok' b _ then_
        rw [e] at e1
        cases e1
        exact e2
theorem law_callG (KX : K.In s1.heap) (hns : s1.heap.Ns mainGlobals mg) (hb : s1.heap.Ns builtinsNs mb)
    (hbb : ∀ y : Str, y ≠ "__name__" → mb y = bootBuiltins y) (hlim : s1.heap.NoLimit) (hg : s1.gens = #[])
    (ha : s1.heap.get? a = some { cls := .type "list", data := .seq vs.toArray }) (hi : IntsAre vs ns) (hl : ns.length ≤ sizeLine) (hr : Room k callerA)
    (F : ∀ base : Heap, K.In base → base.Ns mainGlobals mg → FnG P w K mg base CX0 k fa fd [x] sp)
    (bind : ∀ (s : Shared) (u : Value), BindsTo s fd ⟨[u], []⟩ [(x, u)])
    (want : ∀ H : Hp, Only H → SqL K H a (ns.map V.int) → sp [.ref a] H (fun v _ => v = .bl true) fun _ _ _ => False) :
    codeAny (model P w) callerA (.call (.ref fa) ⟨[.ref a], []⟩) (Good s1) s1 := by
  have rv := vals_ints hi
  have many := hi.length
  cases hk : K.lookup a with
  | some o =>
    have e := KX a o hk
    rw [ha] at e
    cases e
    have o0 : Only fun _ => none := fun _ => .inl rfl
    refine law_from KX hns hb hbb hlim hg ha hr F bind (fun _ => none) o0 (want _ o0 (.inr ?_)) (fun b u z => by cases (show (none : Option HO) = some u from z)) (fun b u z => by cases (show (none : Option HO) = some u from z)) (fun u z => by cases (show (none : Option HO) = some u from z))
    exact ⟨_, vs.toArray, _, hk, rfl, rfl, rfl, by rw [List.size_toArray, many]; exact hl, by simpa using rv⟩
  | none =>
    have o1 : Only fun b => if b = a then some (.frz { cls := .type "list", data := .seq vs.toArray } (.lst (ns.map V.int))) else none := by
      intro b
      by_cases h : b = a
      · exact .inr ⟨_, _, if_pos h⟩
      · exact .inl (if_neg h)
    refine law_from KX hns hb hbb hlim hg ha hr F bind _ o1 (want _ o1 (.inl (.inr ⟨{ cls := .type "list", data := .seq vs.toArray }, if_pos rfl⟩))) (fun b u z => ?_) (fun b u z => ?_) fun _ _ => hk
    · by_cases h : b = a
      · subst h
        cases (if_pos rfl).symm.trans z
        exact ⟨ha, by rw [List.length_map]; exact hl, vs, _, rv, ha⟩
      · cases (if_neg h).symm.trans z
    · by_cases h : b = a
      · exact h
      · cases (if_neg h).symm.trans z
end
theorem walk_G {l : PySem.W.OpenLaw} {n k : Nat} {q : Program} {loose : List Str} {XP : (Str → Option Value) → Heap → Prop} {YP : World → Heap → Prop} {d : DefRec} {x : Str}
    (hn : l.most = some n) (small : n ≤ sizeLine) (nod : d.params.defaults = []) (hr : Room k callerA)
    (F : ∀ (w : World) (mg : Str → Option Value) (fa : Addr) (h : Heap), YP w h → h.Ns mainGlobals mg → mg d.name = some (.ref fa) →
      ∃ (K : PySem.W.Frag) (fd : FuncData) (sp : Sp), K.In h ∧ (∀ (s : Shared) (u : Value), BindsTo s fd ⟨[u], []⟩ [(x, u)]) ∧
        (∀ (H : Hp) (a : Addr) (ns : List Int), ns.length ≤ n → Only H → SqL K H a (ns.map V.int) → sp [.ref a] H (fun v _ => v = .bl true) fun _ _ _ => False) ∧
        ∀ base : Heap, K.In base → base.Ns mainGlobals mg → FnG l.prog w K mg base CX0 k fa fd [x] sp) :
    PySem.W.WalkO q loose XP YP l.row.toRowW d [] (fun f vs => PySem.call f vs) := by
  refine Att.attach_call hn nod fun w s₀ s₁ mg mb fa o pm cd doc a vs ns G Y ho hd hcd hmg hobj hints hlen hg => ?_
  obtain ⟨K, fd, sp, KX, bind, want, FF⟩ := F w mg fa _ Y G.T.g hmg
  exact law_callG KX G.T.g G.T.b G.T.builtins G.T.nolimit hg hobj hints (Nat.le_trans hlen small) hr FF bind fun H hO hS => want H a ns hlen hO hS
end AP

set_option maxHeartbeats 4000000
/-! An error's class called with its one keyword. -/
namespace PySem
namespace APX
open Builtin PySem.HandSPX
section
variable {prog : Program} {w : World} {M : Model} {A : Around} {E : Value → Shared → Prop} {R : Result → Shared → Prop} {h : Heap} {g : Array GenState} {d : Drawn} {t : Nat} {os : OsState}
variable {nm q : Str} {C N : Addr} {bs bm bmB : List Value} {hdct : Bool} {sn : List Str} {sub : List Value} {ab : Bool} {col : Option Bool} {dd : Option Addr}
variable {k0 k1 k2 k3 k5 : Option Value} {B newId initId : String} {u : Value}
/-- the one keyword -/
abbrev kwV (u : Value) : List (Str × Value) := [(("value" : Str), u)]

theorem check_kw (F : ExcBaseFacts B newId initId bmB) (hT : ∀ Y : String, bm.contains (.type Y) = bmB.contains (.type Y)) {Q : Unit → Shared → Prop}
    (hC : h.get? C = some (excClassObj nm q C N bs bm hdct sn sub ab col dd k0 k1 k2 k3 k5 newId)) (go : Q () ⟨h, g, d, t, os⟩) :
    wpAny M A (checkBuiltinCall newId ⟨[.ref C], kwV u⟩) Q E ⟨h, g, d, t, os⟩ := by
  have star := F.noStar
  have inB : (Value.ref C :: bm).contains (.type B) = true := by rw [List.contains_cons, hT, F.hasB, Bool.or_true]
  simp only [checkBuiltinCall, F.newSplit, F.newKind, F.newRow]
  repeat (first
    | refine wpAny_loadPart_at hC ?_
    | (refine wpAny_isSubtype_exc hC ?_; rw [inB])
    | refine wpAny_staticBase_exc hC ?_
    | refine wpAny_madeBy_exc hC ?_
    | simp only [Bool.false_eq_true, bne_self_eq_false, if_false]
    | wp_step)
  exact go

theorem new_kw (F : ExcBaseFacts B newId initId bmB) (hT : ∀ Y : String, bm.contains (.type Y) = bmB.contains (.type Y))
    (hC : h.get? C = some (excClassObj nm q C N bs bm hdct sn sub ab col dd k0 k1 k2 k3 k5 newId))
    (go : R (.ok (.ret (.ref (h.objs.size + 1)))) ⟨(h.push (PySem.W.kdv_tup [])).push (excO C h.objs.size), g, d, t, os⟩) :
    codeAny (model prog w) A (.builtin newId ⟨[.ref C], kwV u⟩) R ⟨h, g, d, t, os⟩ := by
  have last := F.ends
  have inB : (Value.ref C :: bm).contains (.type B) = true := by rw [List.contains_cons, hT, F.hasB, Bool.or_true]
  have notA : (Value.ref C :: bm).contains (.type "AttributeError") = false := by rw [List.contains_cons, hT, F.noAttr] <;> rfl
  have notN : (Value.ref C :: bm).contains (.type "NameError") = false := by rw [List.contains_cons, hT, F.noName] <;> rfl
  refine codeAny_builtinAt F.entry ?_
  unfold Builtin.«BaseException.__new__»
  refine wpAt_bind ?_
  show wpAt _ _ _ (stack >>= _) _ _ (⟨h, g, d, t, os⟩ : Shared)
  refine wpAt_bind (wpAt_stack fun p under => wpAt_of_wpAny ?_)
  wp_walk
  refine wpAt_of_wpAny ?_
  rw [F.owner]
  repeat (first
    | with_reducible refine wpAny_madeHere_exc F.canon hC ?_
    | with_reducible refine wpAny_loadPart_at hC ?_
    | (with_reducible refine wpAny_isSubtype_exc hC ?_
       first | rw [inB] | rw [notA] | rw [notN])
    | wp_step)
  show R _ _
  rw [Heap.size_push]
  exact go

theorem type_call_kw (F : ExcBaseFacts B newId initId bmB) (hT : ∀ Y : String, bm.contains (.type Y) = bmB.contains (.type Y)) {fI : Addr} {Q : Fin → Shared → Prop}
    (hC : h.get? C = some (excClassObj nm q C N bs bm hdct sn sub ab col dd k0 k1 k2 k3 k5 newId))
    (init : W.Looks (model prog w) h (typeLookup (.ref C) "__init__") (some (.ref fI)))
    (bound : ∀ self, W.Looks (model prog w) h (bindSpecial (.ref fI) self) (.ref fI, [self]))
    (go : codeAny (model prog w) A (.call (.ref fI) ⟨[.ref (h.objs.size + 1)], kwV u⟩)
      (fun r s' => match r with | .ok (.ret v) => v = .none ∧ Q (.done (.ret (.ref (h.objs.size + 1)))) s' | .ok _ => False | .error e => E e s')
      ⟨(h.push (PySem.W.kdv_tup [])).push (excO C h.objs.size), g, d, t, os⟩) :
    wpAny (model prog w) A (Builtin.«type.__call__» ⟨[.ref C], kwV u⟩) Q E ⟨h, g, d, t, os⟩ := by
  repeat (first
    | with_reducible refine wpAny_loadPart_at hC ?_
    | with_reducible refine wpAny_madeBy_exc hC ?_
    | wp_step)
  refine codeAny_call_builtin_code (Code.quiet_builtin _ F.quiet) (check_kw F hT hC (new_kw F hT hC ?_))
  show wpAny _ _ _ _ _ _
  have kept : ∀ b o, h.get? b = some o → ((h.push (PySem.W.kdv_tup [])).push (excO C h.objs.size)).get? b = some o := fun b o e =>
    Heap.get?_push_of_some _ (Heap.get?_push_of_some _ e)
  have cls := kept _ _ hC
  have made : ((h.push (PySem.W.kdv_tup [])).push (excO C h.objs.size)).get? (h.objs.size + 1) = some (excO C h.objs.size) := by heap_get
  have own : (Value.ref C :: bm).contains (.ref C) = true := by simp
  have i1 := init.keeps kept
  have b1 := (bound (.ref (h.objs.size + 1))).keeps kept
  unfold isInstance
  repeat (first
    | with_reducible refine wpAny_loadPart_at made ?_
    | (with_reducible refine wpAny_isSubtype_exc cls ?_; rw [own])
    | wp_step)
  show wpAny _ _ (typeLookup (.ref C) _) _ _ _
  refine i1.at (wpAny_holding (wpAny_bind (b1.at (wpAny_bind (wpAny_call (codeAny_mono go fun r s' z => ?_))))))
  cases r with
  | error e => exact z
  | ok fl =>
    cases fl with
    | ret v =>
      obtain ⟨rfl, z⟩ := z
      first
        | exact wpAny_pure (wpAny_pure z)
        | (wp_walk; exact z)
    | next => exact z.elim
    | brk => exact z.elim
    | cont => exact z.elim

theorem call_kw (F : ExcBaseFacts B newId initId bmB) (hT : ∀ Y : String, bm.contains (.type Y) = bmB.contains (.type Y)) {fI : Addr}
    (hC : h.get? C = some (excClassObj nm q C N bs bm hdct sn sub ab col dd k0 k1 k2 k3 k5 newId))
    (init : W.Looks (model prog w) h (typeLookup (.ref C) "__init__") (some (.ref fI)))
    (bound : ∀ self, W.Looks (model prog w) h (bindSpecial (.ref fI) self) (.ref fI, [self]))
    (go : codeAny (model prog w) (A.under (.builtin "type.__call__" ⟨[.ref C], kwV u⟩)) (.call (.ref fI) ⟨[.ref (h.objs.size + 1)], kwV u⟩)
      (W.InitBack (h.objs.size + 1) R) ⟨(h.push (PySem.W.kdv_tup [])).push (excO C h.objs.size), g, d, t, os⟩) :
    codeAny (model prog w) A (.call (.ref C) ⟨[], kwV u⟩) R ⟨h, g, d, t, os⟩ := by
  have look := tc_lookup
  have bind := tc_bind (.ref C)
  have ty : (⟨h, g, d, t, os⟩ : Shared).TypeIs (.ref C) "type" := ⟨_, hC, rfl⟩
  refine codeAny_of_tree ?_
  show wpAny _ _ (callAny (.ref C) _) _ _ (⟨h, g, d, t, os⟩ : Shared)
  repeat (any_goals (first
    | assumption
    | with_reducible refine wpAny_loadPart_at hC ?_
    | wp_step))
  refine ⟨rfl, ?_⟩
  refine codeAny_call_builtin_at (Code.quiet_builtin _ (by decide +kernel)) entry_typeCall (wpAny_check_type_call_sub hC ?_)
  refine type_call_kw F hT hC init bound (codeAny_mono go fun r s' z => ?_)
  rcases r with e | (v | _ | _ | _) <;> exact z
end
end APX
end PySem

set_option maxHeartbeats 4000000
/-! Errors with an own __init__ as values: made, their kinds asked, their field read. -/
namespace AP
open PySem PySem.Spec PyProof.Rows L2
/-! ### C(..) as a value -/
/-- what of the text an error's class has: its own line, its __init__ at fI -/
structure ErrC (K : PySem.W.Frag) (C fI : Addr) : Prop where
  o : OexC K C
  iC : PySem.W.findIn K (.ref C) "__init__" = some (some (.ref fI))
  tI : PySem.W.typeIn K (.ref fI) = some (.type "function")
/-- the promise of an error's __init__: the field is set -/
def spErr (C : Addr) : Sp := fun vs H Q _ => ∃ (a : Addr) (v : V), vs = [.ref a, v] ∧ H a = some (exo a C none) ∧
  ∀ d, H d = none → d ≠ a → Q .non (upd (upd H d (exd d [("value", v)])) a (exo a C (some d)))
/-- at x an error of the class at C with this value -/
def IsErr (C : Addr) (v x : V) (H : Hp) : Prop := ∃ a d, x = .ref a ∧ H a = some (exo a C (some d)) ∧ H d = some (exd d [("value", v)])
theorem IsErr.ex {C : Addr} {v x : V} {H H' : Hp} (e : Evl.Ex H H') (h : IsErr C v x H) : IsErr C v x H' := by
  obtain ⟨a, d, q, h1, h2⟩ := h
  exact ⟨a, d, q, e _ _ h1, e _ _ h2⟩
section
variable {X : Cx} {C fI : Addr} {k : Nat} {fd : FuncData} {x : Str} {p pos : Pos} {e : Expr} {te : TE}
variable {pins : List (Addr × Obj)} {σ : L2.St} {H : Hp} {s s' : Shared} {Q : VK}
theorem err_back {R' : Result → Shared → Prop} {a : Addr} {E : XK} {r : Result} (I : Inv X pins σ H s)
    (q : CR CX0 X.stack X.prog X.w H s (fun y H2 => y = .non ∧ Q (.ref a) H2) E r s')
    (ok : EP X pins σ Q (.ref a) s' → R' (.ok (.ret (.ref a))) s') : W.InitBack a R' r s' := by
  cases r with
  | error er => exact q.elim
  | ok fl =>
    cases fl with
    | ret u =>
      obtain ⟨y, H', J, rv, ey, q3⟩ := I.after q
      subst ey
      exact ⟨rv, ok ⟨V.ref a, H', J, rfl, q3⟩⟩
    | next => exact q.elim
    | brk => exact q.elim
    | cont => exact q.elim
/-- what stands in the wish of __init__'s promise -/
theorem err_want {a : Addr} {v : V} {E : XK} (na : H a = none)
    (want : ∀ H2, Evl.Ex H H2 → IsErr C v (.ref a) H2 → Q (.ref a) H2) :
    spErr C [.ref a, v] (upd H a (exo a C none)) (fun y H2 => y = .non ∧ Q (.ref a) H2) E := by
  refine ⟨a, v, rfl, upd_same, fun d nd ne => ⟨rfl, want _ (fun b o hb => ?_) ⟨a, d, rfl, upd_same, ?_⟩⟩⟩
  · have b1 : b ≠ a := ne_of_none hb na
    have b2 : b ≠ d := by
      intro z
      subst z
      rw [upd_ne b1, hb] at nd
      cases nd
    rw [upd_ne b1, upd_ne b2, upd_ne b1]
    exact hb
  · rw [upd_ne ne]
    exact upd_same
theorem made_inv {us : List Value} (I : Inv X pins σ H s) :
    Inv X pins σ (upd H (s.heap.objs.size + 1) (exo (s.heap.objs.size + 1) C none))
      { s with heap := (s.heap.push (PySem.W.kdv_tup us)).push (HandSPX.excO C s.heap.objs.size) } := by
  have at_ : ((s.heap.push (PySem.W.kdv_tup us)).push (HandSPX.excO C s.heap.objs.size)).get? (s.heap.objs.size + 1) = some (HandSPX.excO C s.heap.objs.size) := by heap_get
  exact I.laid (t' := s.toks) (fun b o z => Heap.get?_push_of_some _ (Heap.get?_push_of_some _ z)) (Nat.le_succ _) (exo_ok at_)
theorem run_err {v : V} {y : Value} {us : List Value} (T : ErrC X.K C fI) (F : FnOk X.prog X.w X.K X.mg X.base CX0 k fI fd ["self", "value"] (spErr C))
    (hr : Room (k + 1) X.A) (I : Inv X pins σ H s) (ry : RelV v y) (small : us.length ≤ sizeLine)
    (bind : ∀ (a : Addr) (s' : Shared), X.K.In s'.heap → BindsTo s' fd ⟨.ref a :: us, []⟩ [("self", .ref a), ("value", y)])
    (want : ∀ a H2, H a = none → Evl.Ex H H2 → IsErr C v (.ref a) H2 → Q (.ref a) H2) :
    wpAny (model X.prog X.w) X.A (call (.ref C) us) (EP X pins σ Q) X.xe s := by
  obtain ⟨nm, q, N, bs, bm, sn, sub, ab, col, dd, k0, k1, k2, k3, k5, hC, hbm⟩ := T.o.cls
  have na : H (s.heap.objs.size + 1) = none := I.hok.fresh (Nat.le_succ _)
  have J := made_inv (C := C) (us := us) I
  obtain ⟨hp, g, dr, tk, os⟩ := s
  refine wpAny_call (HandSPX.call_own PySem.F.excBase_ValueError (fun Y => HandSPX.refsVE_contains Y bm hbm) (I.kIn _ _ hC) (PySem.W.looks_findIn I.kIn T.iC)
    (fun self => PySem.W.bind_fn I.kIn self T.tI) small (codeAny_mono (F.run _ X.stack _ _ ⟨Value.ref (hp.objs.size + 1) :: us, []⟩ [.ref (hp.objs.size + 1), y]
      [.ref (hp.objs.size + 1), v] _ E0 (hr.make C us []) (J.env0.make C us []) (bind _ _ J.kIn) (.cons rfl (.cons ry .nil))
      (err_want na fun H2 => want _ H2 na)) fun r s' z => ?_))
  exact err_back J z fun z => z
theorem run_errK {v : V} {y : Value} (T : ErrC X.K C fI) (F : FnOk X.prog X.w X.K X.mg X.base CX0 k fI fd ["self", "value"] (spErr C))
    (hr : Room (k + 1) X.A) (I : Inv X pins σ H s) (ry : RelV v y)
    (bind : ∀ (a : Addr) (s' : Shared), X.K.In s'.heap → BindsTo s' fd ⟨[.ref a], PySem.APX.kwV y⟩ [("self", .ref a), ("value", y)])
    (want : ∀ a H2, H a = none → Evl.Ex H H2 → IsErr C v (.ref a) H2 → Q (.ref a) H2) :
    wpAny (model X.prog X.w) X.A (call (.ref C) [] (PySem.APX.kwV y)) (EP X pins σ Q) X.xe s := by
  obtain ⟨nm, q, N, bs, bm, sn, sub, ab, col, dd, k0, k1, k2, k3, k5, hC, hbm⟩ := T.o.cls
  have na : H (s.heap.objs.size + 1) = none := I.hok.fresh (Nat.le_succ _)
  have J := made_inv (C := C) (us := []) I
  obtain ⟨hp, g, dr, tk, os⟩ := s
  refine wpAny_call (PySem.APX.call_kw PySem.F.excBase_ValueError (fun Y => HandSPX.refsVE_contains Y bm hbm) (I.kIn _ _ hC) (PySem.W.looks_findIn I.kIn T.iC)
    (fun self => PySem.W.bind_fn I.kIn self T.tI) (codeAny_mono (F.run _ X.stack _ _ ⟨[Value.ref (hp.objs.size + 1)], PySem.APX.kwV y⟩ [.ref (hp.objs.size + 1), y]
      [.ref (hp.objs.size + 1), v] _ E0 (hr.make C [] (PySem.APX.kwV y)) (J.env0.make C [] (PySem.APX.kwV y)) (bind _ _ J.kIn) (.cons rfl (.cons ry .nil))
      (err_want na fun H2 => want _ H2 na)) fun r s' z => ?_))
  exact err_back J z fun z => z
/-- C(e), C(value=e) -/
def tErr (C : Addr) (te : TE) : TE := fun σ H Q => te σ H fun v H1 => ∀ a H2, H1 a = none → Evl.Ex H1 H2 → IsErr C v (.ref a) H2 → Q (.ref a) H2
/-- how the arguments of an error's __init__ bind -/
structure ErrB (K : PySem.W.Frag) (fd : FuncData) : Prop where
  two : ∀ (a : Addr) (y : Value) (s' : Shared), K.In s'.heap → BindsTo s' fd ⟨[.ref a, y], []⟩ [("self", .ref a), ("value", y)]
  one : ∀ (a : Addr) (s' : Shared), K.In s'.heap → BindsTo s' fd ⟨[.ref a], []⟩ [("self", .ref a), ("value", .none)]
  kw : ∀ (a : Addr) (y : Value) (s' : Shared), K.In s'.heap → BindsTo s' fd ⟨[.ref a], PySem.APX.kwV y⟩ [("self", .ref a), ("value", y)]
theorem pe_err (T : ErrC X.K C fI) (b : ErrB X.K fd) (F : FnOk X.prog X.w X.K X.mg X.base CX0 k fI fd ["self", "value"] (spErr C)) (hr : Room (k + 1) X.A)
    (hg : Gl X x) (hm : X.mg x = some (.ref C)) (ha : PE X e te) (hdb : (x == ("__debug__" : Str)) = false := by decide)
    (he : starEach [e] X.env = (false, eval e X.env) :: starEach [] X.env := by rfl) (hpl : (backTo pos (starEach [] X.env)).any (·.1) = false := by rfl) :
    PE X (.Call (.Name x p) [e] [] pos) (tErr C te) := by
  refine ⟨fun pins s σ H Q I h => wpAny_Call_Name_kw (ld_glob I hg hm ?_ hdb)⟩
  have args : PA X [e] (tCons te tNil) := pa_cons ha pa_nil he
  refine PySem.W.callWith_K (h₀ := X.base) I.ok.mod.kin T.o.kC (thn (args.run pos pins s σ H (fun vs H1 => ∃ v, vs = [v] ∧ ∀ a H2, H1 a = none → Evl.Ex H1 H2 → IsErr C v (.ref a) H2 → Q (.ref a) H2) I ?_) fun us s1 hs => ?_) he hpl
  · have h' : te σ H fun v H1 => ∀ a H2, H1 a = none → Evl.Ex H1 H2 → IsErr C v (.ref a) H2 → Q (.ref a) H2 := h
    show te σ H fun v H1 => ∃ w, [v] = [w] ∧ ∀ a H2, H1 a = none → Evl.Ex H1 H2 → IsErr C w (.ref a) H2 → Q (.ref a) H2
    have mono : (fun (v : V) (H1 : Hp) => ∀ a H2, H1 a = none → Evl.Ex H1 H2 → IsErr C v (.ref a) H2 → Q (.ref a) H2) = fun v H1 => ∃ w, [v] = [w] ∧ ∀ a H2, H1 a = none → Evl.Ex H1 H2 → IsErr C w (.ref a) H2 → Q (.ref a) H2 := by
      funext v H1
      refine propext ⟨fun z => ⟨v, rfl, z⟩, fun ⟨w, q, z⟩ => ?_⟩
      cases q
      exact z
    rw [← mono]
    exact h'
  · obtain ⟨vs, H1, I1, r, v, ev, q⟩ := hs
    subst ev
    obtain ⟨y, rfl, ry⟩ := vals1 r
    exact ⟨I1.kIn, run_err (us := [y]) T F hr I1 ry (by show 1 ≤ sizeLine; decide) (fun a s' i => b.two a y s' i) q⟩
theorem pe_err0 (T : ErrC X.K C fI) (b : ErrB X.K fd) (F : FnOk X.prog X.w X.K X.mg X.base CX0 k fI fd ["self", "value"] (spErr C)) (hr : Room (k + 1) X.A)
    (hg : Gl X x) (hm : X.mg x = some (.ref C)) (hdb : (x == ("__debug__" : Str)) = false := by decide) :
    PE X (.Call (.Name x p) [] [] pos) (tErr C (tC .non)) := by
  refine ⟨fun pins s σ H Q I h => wpAny_Call_Name_kw (ld_glob I hg hm ?_ hdb)⟩
  exact PySem.W.callWith_K0 I.kIn T.o.kC (run_err (us := []) (v := .non) (y := .none) T F hr I rfl (by show 0 ≤ sizeLine; decide) (fun a s' i => b.one a s' i) h)
theorem pe_errK {kpos : Pos} (T : ErrC X.K C fI) (b : ErrB X.K fd) (F : FnOk X.prog X.w X.K X.mg X.base CX0 k fI fd ["self", "value"] (spErr C)) (hr : Room (k + 1) X.A)
    (hg : Gl X x) (hm : X.mg x = some (.ref C)) (ha : PE X e te) (hdb : (x == ("__debug__" : Str)) = false := by decide)
    (hall : (backToKw pos (keywordEach [⟨some "value", e, kpos⟩] X.env)).all (·.1.isSome) = true := by rfl) (hks : (backToKw pos (keywordEach [⟨some "value", e, kpos⟩] X.env)).filterMap (·.1) = (["value"] : List Str) := by rfl) :
    PE X (.Call (.Name x p) [] [⟨some "value", e, kpos⟩] pos) (tErr C te) := by
  refine ⟨fun pins s σ H Q I h => wpAny_Call_Name_kw (ld_glob I hg hm ?_ hdb)⟩
  have kws : PK X [⟨some "value", e, kpos⟩] (tCons te tNil) := pk_cons ha pk_nil
  refine PySem.W.callWith_KW0 (h₀ := X.base) I.ok.mod.kin T.o.kC hall (thn (kws.run pos pins s σ H (fun vs H1 => ∃ v, vs = [v] ∧ ∀ a H2, H1 a = none → Evl.Ex H1 H2 → IsErr C v (.ref a) H2 → Q (.ref a) H2) I ?_) fun us s1 hs => ?_)
  · have h' : te σ H fun v H1 => ∀ a H2, H1 a = none → Evl.Ex H1 H2 → IsErr C v (.ref a) H2 → Q (.ref a) H2 := h
    show te σ H fun v H1 => ∃ w, [v] = [w] ∧ ∀ a H2, H1 a = none → Evl.Ex H1 H2 → IsErr C w (.ref a) H2 → Q (.ref a) H2
    have mono : (fun (v : V) (H1 : Hp) => ∀ a H2, H1 a = none → Evl.Ex H1 H2 → IsErr C v (.ref a) H2 → Q (.ref a) H2) = fun v H1 => ∃ w, [v] = [w] ∧ ∀ a H2, H1 a = none → Evl.Ex H1 H2 → IsErr C w (.ref a) H2 → Q (.ref a) H2 := by
      funext v H1
      refine propext ⟨fun z => ⟨v, rfl, z⟩, fun ⟨w, q, z⟩ => ?_⟩
      cases q
      exact z
    rw [← mono]
    exact h'
  · obtain ⟨vs, H1, I1, r, v, ev, q⟩ := hs
    subst ev
    obtain ⟨y, rfl, ry⟩ := vals1 r
    refine ⟨I1.kIn, ?_⟩
    rw [hks]
    exact run_errK T F hr I1 ry (fun a s' i => b.kw a y s' i) q
/-! ### the __init__ -/
/-- D.__init__(self, ..), D an own class whose __init__ is ValueError's -/
structure BaseI (K : PySem.W.Frag) (D : Addr) : Prop where
  rd : PySem.W.readsIn K D (.type "type") = true
  ga : PySem.W.specialIn K (.ref D) "__getattribute__" = some (some (.builtin "type.__getattribute__"))
  at_ : PySem.W.findCls K (.ref D) (.type "type") "__init__" = some (.val (.builtin "ValueError.__init__"))
theorem pe_ceinit {p1 p2 : Pos} {D : Addr} {es : List Expr} {ta : TA} {pl : Sem Bool} (hg : Gl X x) (hm : X.mg x = some (.ref D)) (B : BaseI X.K D) (ha : PA X (e :: es) ta)
    (hdb : (x == ("__debug__" : Str)) = false := by decide)
    (hc : eval (.Call (.Attribute (.Name x p1) "__init__" p2) (e :: es) [] pos) X.env = (do
      let ov ← eval (.Name x p1) X.env
      standAt p2.atName
      let (f, first) ← holding [ov] (getMethod ov "__init__" pl)
      callWith pos f first (backTo pos (starEach (e :: es) X.env)) (backToKw pos (keywordEach [] X.env))) := by rfl)
    (he : starEach (e :: es) X.env = (false, eval e X.env) :: starEach es X.env := by rfl) (hpl : (backTo pos (starEach es X.env)).any (·.1) = false := by rfl) :
    PE X (.Call (.Attribute (.Name x p1) "__init__" p2) (e :: es) [] pos) (tVeI X.K ta) := by
  refine ⟨fun pins s σ H Q I h => PySem.W.methodCall_KW (ld_glob I hg hm ?_ hdb) hc⟩
  refine PySem.W.method_cls I.kIn B.ga (PySem.W.cls_value I.kIn B.rd B.at_ (by decide +kernel) ?_)
  show wpAny _ _ (callWith pos (Value.builtin "ValueError.__init__") [] (backTo pos (starEach (e :: es) X.env)) []) _ _ _
  refine PyProof.Rows.callWith_method1 (thn (ha.run pos pins _ σ H _ (I.tok _) h) fun us s1 hs => ?_) he hpl
  obtain ⟨vs, H1, I1, r1, a, C, ws, rfl, many, T, ea, q⟩ := hs
  cases r1 with
  | @cons _ u0 _ ur ra rw' =>
    obtain rfl : u0 = Value.ref a := ra
    have small : ur.length ≤ sizeLine := by
      rw [← Paired.length rw', sizeLine_eq]
      omega
    exact oinit_ok T I1 ea small fun s' J => ⟨.non, H1, J, rfl, q⟩
/-! ### isinstance, the field -/
/-- what isinstance and reads of fields want of an error's class -/
structure ErrK (K : PySem.W.Frag) (C : Addr) : Prop where
  cl : (PySem.W.clsIn K C).isSome = true
  ga : PySem.W.findIn K (.ref C) "__getattribute__" = some (some (.builtin "BaseException.__getattribute__"))
  gt : PySem.W.findIn K (.ref C) "__getattr__" = some none
  sub : PySem.W.subIn K (.ref C) (.type "BaseException") = some true
  ha : PySem.W.findIn K (.ref C) "__class__" = some (some (.builtin "object.__class__"))
  hn : PySem.W.specialIn K (.builtin "object.__class__") "__get__" = some (some (.builtin "getset_descriptor.__get__"))
  tk : PySem.W.takesIn K (.builtin "object.__class__") = some true
  hm : PySem.W.mroIn K C (.type "object") = some true
/-- isinstance(x, c), x an error of the class at C -/
def rIsErr (K : PySem.W.Frag) : List V → Hp → VK → Prop := fun xs H Q => ∃ (a C : Addr) (c : V) (cv : Value) (b : Bool), xs = [.ref a, c] ∧ ErrK K C ∧
  ((∃ d fs, H a = some (exo a C (some d)) ∧ H d = some (exd d fs)) ∨ H a = some (ExO (.ref C) a)) ∧ (∀ u, RelV c u → u = cv) ∧ PySem.W.kitOne K (.ref C) cv = some b ∧ Q (.bl b) H
theorem call_isErr : CallR X (.builtin "isinstance") (rIsErr X.K) := by
  intro pins s σ H xs us Q I r h
  obtain ⟨a, C, c, cv, b, rfl, G, at_, hcv, e, q⟩ := h
  obtain ⟨u1, u2, rfl, r1, r2⟩ := vals2 r
  cases r1
  cases hcv _ r2
  have fin : ∀ tk, EP X pins σ Q (.bool b) { s with toks := tk } := fun tk => ⟨.bl b, H, I.tok tk, rfl, q⟩
  rcases at_ with ⟨d, fs, h1, h2⟩ | h1
  · obtain ⟨t1, ho⟩ := exo_at I.hok h1
    obtain ⟨mA, hns, rel⟩ := exd_at I.hok h2
    obtain ⟨oD, _, _, hoD, _, _⟩ := hns.count (within_of rel)
    exact PySem.W.kia_one (PySem.W.kitx_exc (od := some oD) G.cl G.ga G.gt G.sub G.ha G.hn G.tk G.hm) I.kIn ⟨ho, rfl, rfl, hoD⟩ e (fun z => nomatch z) fin
  · have ob : ObjOk X.prog X.w H s.heap a (ExO (.ref C) a) := I.hok a _ h1
    obtain ⟨⟨oe, vs, ho, hz, hd, _⟩, _, _⟩ := ob
    obtain ⟨oc, odd, oda, osl⟩ := oe
    obtain ⟨z1, z2⟩ := hz
    dsimp only at z1 z2 hd
    subst z1 z2 hd
    exact PySem.W.kia_one (PySem.W.kitx_exc (od := none) G.cl G.ga G.gt G.sub G.ha G.hn G.tk G.hm) I.kIn ⟨ho, rfl, rfl, trivial⟩ e (fun z => nomatch z) fin
/-- x.f, x an error of an own class that has its dict -/
def tErrF (K : PySem.W.Frag) (f : Str) (te : TE) : TE := fun σ H Q => te σ H fun x H1 => ∃ (a C d : Addr) (fs : List (Str × V)) (v : V), x = .ref a ∧ ErrK K C ∧ PySem.W.hasDictIn K C = true ∧
  PySem.W.findIn K (.ref C) f = some none ∧ H1 a = some (exo a C (some d)) ∧ H1 d = some (exd d fs) ∧ fs.lookup f = some v ∧ Q v H1
theorem pe_errF {f : Str} (he : PE X e te) (hb : attributeBase e f X.env (eval e X.env) = eval e X.env := by rfl) :
    PE X (.Attribute e f pos) (tErrF X.K f te) := by
  refine ⟨fun pins s σ H Q I h => attr_of hb (thn (he.run pins s σ H _ I h) fun u s1 hh => ?_)⟩
  obtain ⟨x, H1, I1, rx, a, C, d, fs, v, rfl, G, dict, no, h1, h2, l, q⟩ := hh
  cases rx
  obtain ⟨t1, ho⟩ := exo_at I1.hok h1
  obtain ⟨mA, hns, rel⟩ := exd_at I1.hok h2
  obtain ⟨od, hod, look⟩ := lookIn_ns hns
  obtain ⟨y, hy, ry⟩ := RelO.some_of (v := v) (o := mA f) (by rw [← l]; exact rel f)
  exact HandSPX.exc_get I1.kIn (od := some od) ⟨ho, rfl, rfl, hod⟩ G.ga G.gt G.sub (PySem.W.findObj_own dict no rfl (by rw [look, hy])) (handed_of ry)
    ⟨v, H1, I1.tok _, ry, q⟩
end
end AP
/-! ### the promises of the draws -/
namespace AP
open PySem PySem.Spec PyProof.Rows L2
theorem rest_of (x : Int) {n : Int} (h : 0 < n) : ∃ r, x % n = r ∧ 0 ≤ r ∧ r < n :=
  ⟨x % n, rfl, Int.emod_nonneg _ (by omega), Int.emod_lt_of_pos _ h⟩
theorem bits_small {b : Int} (h : 0 < b) (hb : b.natAbs < 2 ^ 8999) : (Builtin.Int.intBits b : Int) ≤ 8999 := by
  have := PyProof.Rows.intBits_le hb
  omega
theorem cut_ints (ns : List Int) (lo hi : Option Int) : ∃ ms : List Int, cutV (ns.map V.int) lo hi = ms.map V.int := by
  unfold cutV
  exact ⟨_, by rw [← List.map_drop, ← List.map_take]⟩
theorem pow_a : PowOk 10 18 := ⟨by decide, by decide +kernel⟩
theorem pow_b : PowOk 10 60 := ⟨by decide, by decide +kernel⟩
theorem pow_c : PowOk (10 ^ (60 : Int).toNat) 10 := ⟨by decide, by decide +kernel⟩
theorem pow_d : (0 : Int) < (10 ^ (60 : Int).toNat) ^ (10 : Int).toNat := by decide +kernel
/-- some number below 2 ** 31 -/
def spHash : Sp := fun vs H Q _ => ∃ s i : Int, vs = [.int s, .int i] ∧ 0 ≤ i ∧ i < 2 ^ 60 ∧ ∀ n : Int, 0 ≤ n → n < 2147483648 → Q (.int n) H
/-- a generator of draws: the digits left, the seed, how many were hashed -/
def GenAt (H : Hp) (g : Addr) (x y z : Int) : Prop := H g = some (.lst [.int x, .int y, .int z])
/-- a number below the bound; nothing changes but the generator -/
def spRandom : Sp := fun vs H Q _ => ∃ (g : Addr) (b x y z : Int), vs = [.ref g, .int b] ∧
  (H g = some (.lst [.int x, .int y, .int z]) ∧ 0 ≤ x ∧ 0 ≤ y ∧ 0 ≤ z ∧ z < 2 ^ 50) ∧ 0 < b ∧ b.natAbs < 2 ^ 8999 ∧
  ∀ (n x' z' : Int) (H' : Hp), 0 ≤ n → n < b → (H' g = some (.lst [.int x', .int y, .int z']) ∧ 0 ≤ x' ∧ 0 ≤ y ∧ 0 ≤ z' ∧ z' ≤ z + 300) →
    (∀ a, a ≠ g → H' a = H a) → z ≤ z' → Q (.int n) H'
/-- some number -/
def spCellA (K : PySem.W.Frag) : Sp := fun vs H Q _ => ∃ (a : Addr) (ns : List Int) (i : Nat), vs = [.ref a, .int i] ∧ SqL K H a (ns.map V.int) ∧
  ∀ (n : Int) (H' : Hp), Evl.Ex H H' → Q (.int n) H'
/-- a new generator -/
def spGenerator (K : PySem.W.Frag) : Sp := fun vs H Q _ => ∃ (a : Addr) (ns : List Int) (i : Nat), vs = [.ref a, .int i] ∧ SqL K H a (ns.map V.int) ∧ i ≤ 1000 ∧
  ∀ (p : Addr) (H' : Hp), H p = none → Evl.Ex H H' → (∃ x y z : Int, H' p = some (.lst [.int x, .int y, .int z]) ∧ 0 ≤ x ∧ (0 ≤ y ∧ y < 2147483648) ∧ 0 ≤ z ∧ z ≤ 1000000) → Q (.ref p) H'
end AP

set_option maxHeartbeats 4000000
/-! What evaluates to something of which a thing is told. -/
namespace AP
open PySem PySem.Spec PyProof.Rows L2 Evl
abbrev VP := V → Hp → Prop
/-- what stays when objects come beside -/
def Stays (P : VP) : Prop := ∀ x H H', Ex H H' → P x H → P x H'
/-- the values are told one by one -/
inductive Alls (H : Hp) : List VP → List V → Prop
  | nil : Alls H [] []
  | cons {P : VP} {Ps : List VP} {x : V} {xs : List V} : Stays P → P x H → Alls H Ps xs → Alls H (P :: Ps) (x :: xs)
theorem Alls.ex {H H' : Hp} (e : Ex H H') : ∀ {Ps : List VP} {xs : List V}, Alls H Ps xs → Alls H' Ps xs
  | _, _, .nil => .nil
  | _, _, .cons st h r => .cons st (st _ _ _ e h) (Alls.ex e r)
theorem Alls.app {H : Hp} : ∀ {Ps Qs : List VP} {xs ys : List V}, Alls H Ps xs → Alls H Qs ys → Alls H (Ps ++ Qs) (xs ++ ys)
  | _, _, _, _, .nil, h => h
  | _, _, _, _, .cons st h r, k => .cons st h (Alls.app r k)
theorem Alls.len {H : Hp} : ∀ {Ps : List VP} {xs : List V}, Alls H Ps xs → xs.length = Ps.length
  | _, _, .nil => rfl
  | _, _, .cons _ _ r => congrArg Nat.succ (Alls.len r)
theorem Alls.get {H : Hp} : ∀ {Ps : List VP} {xs : List V}, Alls H Ps xs → ∀ {i : Nat} {x : V}, xs[i]? = some x → ∃ P, Ps[i]? = some P ∧ P x H
  | _, _, .nil, _, _, h => by cases h
  | _, _, .cons _ h r, 0, _, e => by cases e; exact ⟨_, rfl, h⟩
  | _, _, .cons _ h r, i + 1, _, e => Alls.get r (i := i) e

def Evp (te : TE) (σ : L2.St) (H : Hp) (P : VP) : Prop := ∀ H1, Ex H H1 → ∀ Q : VK, (∀ x H2, Ex H1 H2 → P x H2 → Q x H2) → te σ H1 Q
/-- a new list of such values -/
def Elp (te : TE) (σ : L2.St) (H : Hp) (Ps : List VP) : Prop := ∀ H1, Ex H H1 → ∀ Q : VK,
  (∀ p xs H2, H1 p = none → Ex H1 H2 → H2 p = some (.lst xs) → Alls H2 Ps xs → Q (.ref p) H2) → te σ H1 Q
def EvpA (ta : TA) (σ : L2.St) (H : Hp) (Ps : List VP) : Prop := ∀ H1, Ex H H1 → ∀ Q : List V → Hp → Prop, (∀ xs H2, Ex H1 H2 → Alls H2 Ps xs → Q xs H2) → ta σ H1 Q
section
variable {K : PySem.W.Frag} {σ : L2.St} {H H' : Hp} {ta tb te : TE} {P : VP} {Ps Qs : List VP} {v : V} {tr : TA} {D : Ends} {tz : TS}
theorem Evp.of (h : Ev te σ H v) : Evp te σ H fun x _ => x = v := fun H1 e Q q => h H1 e Q fun H2 e2 => q v H2 e2 rfl
theorem evpA_nil : EvpA tNil σ H [] := fun H1 _ Q q => q [] H1 (Ex.refl H1) .nil
theorem evpA_cons (h : Evp te σ H P) (hr : EvpA tr σ H Ps) (st : Stays P) : EvpA (tCons te tr) σ H (P :: Ps) := fun H1 e Q q =>
  h H1 e _ fun x H2 e2 hx => hr H2 (e.trans e2) _ fun xs H3 e3 hs => q _ H3 (e2.trans e3) (.cons st (st _ _ _ e3 hx) hs)
theorem elp_lst (h : EvpA tr σ H Ps) (small : Ps.length ≤ 100000) : Elp (tLst tr) σ H Ps := fun H1 e Q q =>
  h H1 e _ fun xs H2 e2 hs => ⟨sz_of (by rw [hs.len]; exact small), fun p np =>
    q p xs _ (fresh_back e2 np) (e2.trans (Ex.new np)) upd_same (hs.ex (Ex.new np))⟩
/-- a list and a new list, joined -/
theorem elp_cat {l : Addr} {xs : List V} (hl : H l = some (.lst xs)) (hs : Alls H Ps xs) (ha : Ev ta σ H (.ref l)) (hb : Elp tb σ H Qs)
    (small : Ps.length + Qs.length ≤ 100000) : Elp (tOp rCat ta tb) σ H (Ps ++ Qs) := fun H1 e Q q =>
  ha H1 e _ fun H2 e2 => hb H2 (e.trans e2) _ fun p ys H3 np e3 hp hy => by
    have ex := (e.trans e2).trans e3
    refine ⟨l, p, xs, ys, rfl, rfl, ex _ _ hl, hp, sz_of (by rw [hs.len, hy.len]; exact small), fun r nr => ?_⟩
    refine q r _ _ (fresh_back (e2.trans e3) nr) ((e2.trans e3).trans (Ex.new nr)) upd_same ?_
    exact ((hs.ex ex).app hy).ex (Ex.new nr)
theorem q_asgLp {i : Nat} (h : Elp te σ H Ps) (k : ∀ p xs H1, H p = none → Ex H H1 → H1 p = some (.lst xs) → Alls H1 Ps xs → tz D (σ.set i (some (.ref p))) H1) :
    tSeq (tAsg te (gName i)) tz D σ H := h H (Ex.refl H) _ fun p xs H1 np e hp hs => k p xs H1 np e hp hs
theorem s_retLp (h : Elp te σ H Ps) (k : ∀ p xs H1, H p = none → Ex H H1 → H1 p = some (.lst xs) → Alls H1 Ps xs → D.rt (.ref p) H1) : tRet te D σ H :=
  h H (Ex.refl H) _ fun p xs H1 np e hp hs => k p xs H1 np e hp hs
/-- an error made of a value -/
theorem ep_err {C : Addr} (h : Ev te σ H v) : Evp (tErr C te) σ H (IsErr C v) := fun H1 e Q q =>
  h H1 e _ fun H2 e2 a H3 na e3 k => q (.ref a) H3 (e2.trans e3) k
theorem stays_err {C : Addr} : Stays (IsErr C v) := fun _ _ _ e h => h.ex e
/-- a list and a new list of known values, joined -/
theorem el_cat {l : Addr} {xs ys : List V} (hl : H l = some (.lst xs)) (ha : Ev ta σ H (.ref l)) (hb : EvL tb σ H ys) (small : xs.length + ys.length ≤ 100000) :
    EvL (tOp rCat ta tb) σ H (xs ++ ys) := fun H1 e Q q =>
  ha H1 e _ fun H2 e2 => hb H2 (e.trans e2) _ fun p H3 np e3 hp => by
    have ex := (e.trans e2).trans e3
    refine ⟨l, p, xs, ys, rfl, rfl, ex _ _ hl, hp, sz_of small, fun r nr => ?_⟩
    exact q r _ (fresh_back (e2.trans e3) nr) ((e2.trans e3).trans (Ex.new nr)) upd_same
/-! ### isinstance, fields, equality, repr, as what evaluates -/
/-- at a an error of the class at C, whatever it carries -/
def SomeErr (C a : Addr) (H : Hp) : Prop := (∃ d fs, H a = some (exo a C (some d)) ∧ H d = some (exd d fs)) ∨ H a = some (ExO (.ref C) a)
theorem SomeErr.ex {C a : Addr} (e : Ex H H') (h : SomeErr C a H) : SomeErr C a H' := by
  rcases h with ⟨d, fs, h1, h2⟩ | h
  · exact .inl ⟨d, fs, e _ _ h1, e _ _ h2⟩
  · exact .inr (e _ _ h)
theorem rc_isErr {a C : Addr} {c : V} {cv : Value} {b : Bool} (G : ErrK K C) (h : SomeErr C a H) (hc : ∀ u, RelV c u → u = cv)
    (k : PySem.W.kitOne K (.ref C) cv = some b) : RC (rIsErr K) [.ref a, c] H (.bl b) := fun H1 e Q q =>
  ⟨a, C, c, cv, b, rfl, G, h.ex e, hc, k, q H1 (Ex.refl H1)⟩
theorem ev_isErr {a C : Addr} {c : V} {cv : Value} {b : Bool} (G : ErrK K C) (h : SomeErr C a H) (hc : ∀ u, RelV c u → u = cv)
    (k : PySem.W.kitOne K (.ref C) cv = some b) (h1 : Ev ta σ H (.ref a)) (h2 : Ev tb σ H c) : Ev (tCB (rIsErr K) (tCons ta (tCons tb tNil))) σ H (.bl b) :=
  ev_cb (ea_cons h1 (ea_cons h2 ea_nil)) (rc_isErr G h hc k)
theorem ev_errF {a C d : Addr} {f : Str} {fs : List (Str × V)} (G : ErrK K C) (dict : PySem.W.hasDictIn K C = true) (no : PySem.W.findIn K (.ref C) f = some none)
    (h1 : H a = some (exo a C (some d))) (h2 : H d = some (exd d fs)) (l : fs.lookup f = some v) (h : Ev te σ H (.ref a)) : Ev (tErrF K f te) σ H v := fun H1 e Q q =>
  h H1 e _ fun H2 e2 => ⟨a, C, d, fs, v, rfl, G, dict, no, (e.trans e2) _ _ h1, (e.trans e2) _ _ h2, l, q H2 e2⟩
end
/-- a value that shows and that is equal to itself -/
def Fine (K : PySem.W.Frag) (v : V) (H : Hp) : Prop :=
  (∃ d, Dp K H v d ∧ SeqAt.shaped d = true ∧ d.showable = true ∧ d.hasDict = false ∧ d.depth ≤ 60 ∧ d.shown.length ≤ sizeLine) ∨
    ∃ (a : Addr) (z : Str) (n : Int), v = .ref a ∧ H a = some (.dK [(Sum.inr z, .int n)]) ∧ (oneD z n).showable = true ∧ (oneD z n).shown.length ≤ sizeLine
mutual
theorem dp_ex {K : PySem.W.Frag} {H H' : Hp} (e : Ex H H') : ∀ {v : V} {d : PyData}, Dp K H v d → Dp K H' v d
  | _, _, .non => .non
  | _, _, .bl b => .bl b
  | _, _, .int i => .int i
  | _, _, .str x => .str x
  | _, _, .lst h k => .lst (ex_l e h) (dpAll_ex e k)
  | _, _, .tup h k => .tup (ex_t e h) (dpAll_ex e k)
theorem dpAll_ex {K : PySem.W.Frag} {H H' : Hp} (e : Ex H H') : ∀ {vs : List V} {ds : List PyData}, DpAll K H vs ds → DpAll K H' vs ds
  | _, _, .nil => .nil
  | _, _, .cons h k => .cons (dp_ex e h) (dpAll_ex e k)
end
theorem Fine.ex {K : PySem.W.Frag} {v : V} {H H' : Hp} (e : Ex H H') (h : Fine K v H) : Fine K v H' := by
  rcases h with ⟨d, h, r⟩ | ⟨a, z, n, q, h, r⟩
  · exact .inl ⟨d, dp_ex e h, r⟩
  · exact .inr ⟨a, z, n, q, e _ _ h, r⟩
/-- repr of such a value -/
abbrev rRep (K : PySem.W.Frag) : List V → Hp → VK → Prop := fun xs H Q => rRepr K xs H Q ∨ rReprD xs H Q
def shownF (K : PySem.W.Frag) (v : V) (t : Str) (H : Hp) : Prop := ∀ H', Ex H H' → ∀ Q : VK, Q (.str t) H' → rRep K [v] H' Q
theorem Fine.shown {K : PySem.W.Frag} {v : V} {H : Hp} (h : Fine K v H) : ∃ t, shownF K v t H := by
  rcases h with ⟨d, h, s1, s2, s3, s4, s5⟩ | ⟨a, z, n, rfl, h, s1, s2⟩
  · exact ⟨d.shown, fun H' e Q q => .inl ⟨v, d, rfl, dp_ex e h, s2, s3, s4, s5, q⟩⟩
  · exact ⟨(oneD z n).shown, fun H' e Q q => .inr ⟨a, z, n, rfl, e _ _ h, s1, s2, q⟩⟩
/-- == of a value with itself -/
def rEqDict : R2 := fun x y H Q => ∃ a b kvs, x = .ref a ∧ y = .ref b ∧ H a = some (.dK kvs) ∧ H b = some (.dK kvs) ∧ (kvs.map (·.1)).Nodup ∧ (∀ p ∈ kvs, flatB p.2 = true) ∧ Q (.bl true) H
abbrev rSame (K : PySem.W.Frag) : R2 := fun x y H Q => rEqD K x y H Q ∨ rEqDict x y H Q
theorem Fine.same {K : PySem.W.Frag} {v : V} {H : Hp} (h : Fine K v H) : RV (rSame K) v v H (.bl true) := fun H1 e Q q => by
  rcases h with ⟨d, h, s1, _⟩ | ⟨a, z, n, rfl, h, _⟩
  · refine .inl ⟨d, d, dp_ex e h, dp_ex e h, s1, s1, ?_⟩
    rw [SeqAt.eqv_refl d (SeqAt.canLay_of_shaped s1)]
    exact q H1 (Ex.refl H1)
  · exact .inr ⟨a, a, _, rfl, rfl, e _ _ h, e _ _ h, by simp, by simp [flatB], q H1 (Ex.refl H1)⟩

/-! ### loops over enumerate -/
theorem for_enumL {K : PySem.W.Frag} {a : Addr} {xs : List V} {g : TG} {tb : TS} {D : Ends} {σ : L2.St} {H : Hp} (Pv : Nat → L2.St → Hp → Prop) (h0 : Pv 0 σ H)
    (hq : ∀ i σ H, Pv i σ H → SqL K H a xs)
    (hs : ∀ (i : Nat) (x : V) (T : Addr) (σ : L2.St) (H : Hp), xs[i]? = some x → Pv i σ H → H T = none →
      g (.ref T) σ (upd H T (.tup [.int (i : Nat), x])) fun σ2 H2 => tb { D with nx := Pv (i + 1), ct := Pv (i + 1), bk := D.nx } σ2 H2)
    (hd : ∀ σ H, Pv xs.length σ H → D.nx σ H) :
    ∃ W : Nat → Nat → L2.St → Hp → Prop, (∃ m, W 0 m σ H) ∧ ∀ i m σ H, W i m σ H →
      ((Ite K a).stop i H ∧ D.nx σ H) ∨ ((Ite K a).go i H ∧ ∃ N : L2.St → Hp → Prop, (∀ σ' H', N σ' H' → ∃ m', m' < m ∧ W (i + 1) m' σ' H') ∧
        ∀ v H', (Ite K a).yld i H v H' → g v σ H' fun σ2 H2 => tb { D with nx := N, ct := N, bk := D.nx } σ2 H2) := by
  refine ⟨fun i m σ H => m + i = xs.length ∧ Pv i σ H, ⟨xs.length, rfl, h0⟩, ?_⟩
  rintro i m σ H ⟨e, p⟩
  have q := hq i σ H p
  rcases Nat.lt_or_ge i xs.length with lt | ge
  · refine .inr ⟨⟨xs, xs[i], q, List.getElem?_eq_getElem lt⟩, Pv (i + 1), fun σ' H' p' => ⟨m - 1, by omega, by omega, p'⟩, ?_⟩
    rintro v H' ⟨T, x, rfl, nT, rfl, fx⟩
    exact hs i x T σ H (fx xs q) p nT
  · cases (show i = xs.length by omega)
    exact .inl ⟨⟨xs, q, Nat.le_refl _⟩, hd _ _ p⟩
/-! ### an error without an __init__ of its own -/
section
variable {X : Cx} {C : Addr} {x : Str} {p pos : Pos}
theorem pe_exc0 {bmB : List Value} {B newId initId : String} (F : ExcBaseFacts B newId initId bmB) (q : PySem.W.excIn X.K C bmB newId = true) (gC : X.mg x = some (.ref C))
    (kC : PySem.W.keepIn X.K (.ref C) = true) (hg : Gl X x) (hdb : (x == ("__debug__" : Str)) = false := by decide) :
    PE X (.Call (.Name x p) [] [] pos) (fun _ H Q => ∀ a, H a = none → Q (.ref a) (upd H a (ExO (.ref C) a))) := by
  refine ⟨fun pins s σ H Q I h => wpAny_Call_Name_kw (ld_glob I hg gC ?_ hdb)⟩
  refine PySem.W.callWith_K0 I.kIn kC ?_
  show wpAny _ _ (call (.ref C) []) _ _ s
  obtain ⟨bm, N, nm, qn, bs, hdct, sn, sub, ab, col, dd, k0, k1, k2, k3, k5, mN, hC, hN, hni, T⟩ := exc_obj I.kIn q
  refine wpAny_call_exc_subT F T hC hN hni (fun h' a made => ?_) (by decide)
  have na : H a = none := I.hok.gone made.new
  obtain ⟨t, there, _, _⟩ := made.there
  exact ⟨.ref a, upd H a (ExO (.ref C) a), I.laidN made.keeps made.new na (exO_ok there ⟨rfl, rfl⟩ rfl rfl rfl (show 4 < 6 by decide)), rfl, h a na⟩
/-- "ab" * n -/
def rAb : R2 := fun x y H Q => ∃ n : Int, x = .str "ab" ∧ y = .int n ∧ 0 ≤ n ∧ n < 3 ∧ ∀ t : Str, (reprText t).length ≤ sizeLine → SeqAt.shaped (.str t) = true → Q (.str t) H
theorem op_mul_ab : OpR X (binaryOp .Mult) rAb := by
  intro pins s σ H x y v u Q I rx ry h
  obtain ⟨n, rfl, rfl, h0, h3, q⟩ := h
  obtain ⟨t, rfl⟩ := (show ∃ t, v = Value.str "ab" t from rx)
  obtain ⟨t', rfl⟩ := (show ∃ t, u = Value.int n t from ry)
  rcases (show n = 0 ∨ n = 1 ∨ n = 2 by omega) with rfl | rfl | rfl
  · exact PySem.P.mul_str_none (by decide) (by decide) ⟨.str Str.empty, H, I.tok _, ⟨_, rfl⟩, q _ (by decide +kernel) (by decide +kernel)⟩
  · exact PySem.P.mul_str (by decide) (fun _ z => by cases z) (fun _ z => by cases z) ⟨.str "ab", H, I, ⟨t, rfl⟩, q _ (by decide +kernel) (by decide +kernel)⟩
  · exact PySem.P.mul_str (by decide) (fun _ _ => by decide +kernel) (fun _ _ => by decide +kernel) ⟨by decide +kernel, .str _, H, I.tok _, ⟨_, rfl⟩, q _ (by decide +kernel) (by decide +kernel)⟩
end
end AP

set_option maxHeartbeats 4000000
/-! Law k03 of anyplaces: the errors by their classes. -/
namespace K03
open PySem PySem.Spec PyProof.Rows L2 AP Evl
def topS (i : Nat) : Stmt := PySem.Challenge.pw_anyplaces_k03_errors_by_their_classes.main.body.getD i (.Pass ⟨0, 0, 0, 0⟩)

/-! ### the law's own draws -/
abbrev s_hash : Stmt := topS 17
abbrev s_random : Stmt := topS 18
abbrev s_cell : Stmt := topS 19
abbrev s_generator : Stmt := topS 20
theorem sc_hash : FnScope ["_law_seed", "_law_index", "_law_mixed"] ["_law_seed", "_law_index"] (defScope s_hash) :=
  ⟨rfl, rfl, rfl, by decide +kernel, rfl, by decide +kernel, by decide +kernel⟩
theorem sc_random : FnScope ["_law_generator_here", "_law_bound", "_law_drawn", "_law_turn"] ["_law_generator_here", "_law_bound"] (defScope s_random) :=
  ⟨rfl, rfl, rfl, by decide +kernel, rfl, by decide +kernel, by decide +kernel⟩
theorem sc_cell : FnScope ["_law_script", "_law_index"] ["_law_script", "_law_index"] (defScope s_cell) :=
  ⟨rfl, rfl, rfl, by decide +kernel, rfl, by decide +kernel, by decide +kernel⟩
theorem sc_generator : FnScope ["_law_script", "_law_index", "_law_seed"] ["_law_script", "_law_index"] (defScope s_generator) :=
  ⟨rfl, rfl, rfl, by decide +kernel, rfl, by decide +kernel, by decide +kernel⟩
/-- the built-in names that the draws use -/
structure TB (mg : Str → Option Value) : Prop where
  int : mg "int" = none
  len : mg "len" = none
  sum : mg "sum" = none
  max : mg "max" = none
  range : mg "range" = none
section
variable {P : Program} {w : World} {K : PySem.W.Frag} {mg : Str → Option Value} {base : Heap}
theorem ok_hash {f : Addr} {fd : FuncData} (F : Df K "_law_hash" "_law_hash" s_hash [] f fd) (T : TB mg) :
    FnOk P w K mg base CX0 1 f fd ["_law_seed", "_law_index"] spHash := by
  refine F.go sc_hash (fun vs H Q E h => ?_) (fun cdv A outer s H vs Q E hr h => ?_)
  · obtain ⟨_, _, rfl, _⟩ := h
    rfl
  · obtain ⟨s0, i, rfl, h0, h1, q⟩ := h
    refine ⟨_, pss_cons (ps_set (i := 2) sc_hash.nd rfl (.inl rfl) (pe_op op_mod (pe_callTy call_int1 (by rfl) T.int (by decide +kernel) (pa_cons (pe_op op_add (pe_op op_add (pe_op op_add (pe_op op_mul (pv 0) pe_int) (pe_op op_mul (pe_op op_mul pe_int (pv 1)) (pv 1))) (pe_op op_mul pe_int (pv 1))) pe_int) pa_nil)) pe_int))
     (pss_cons (ps_set (i := 2) sc_hash.nd rfl (.inl rfl) (pe_op op_mod (pe_callTy call_int1 (by rfl) T.int (by decide +kernel) (pa_cons (pe_op op_add (pe_op op_add (pe_op op_mul (pv 2) (pv 2)) (pe_op op_mul pe_int (pv 1))) pe_int) pa_nil)) pe_int))
     (pss_one (ps_ret (pe_op op_mod (pe_callTy call_int1 (by rfl) T.int (by decide +kernel) (pa_cons (pe_op op_mul (pv 2) pe_int) pa_nil)) pe_int)))), ?_⟩
    refine ⟨_, rfl, _, _, rfl, rfl, .inr ⟨by decide, by decide⟩, _, rfl, _, _, rfl, rfl, .inl ⟨by decide, by decide⟩, _, rfl, _, _, rfl, rfl, .inr ⟨by omega, by omega⟩,
      _, _, rfl, rfl, _, rfl, _, _, rfl, rfl, .inl ⟨by decide, by decide⟩, _, _, rfl, rfl, _, _, rfl, rfl, .inl ⟨_, rfl, _, _, rfl, rfl, (by show (0 : Int) < 2147483629; decide), ?_⟩⟩
    obtain ⟨m, em, m0, m1⟩ := rest_of (s0 * 1140671 + 27644437 * i * i + 131 * i + 19) (n := 2147483629) (by decide)
    dsimp only
    rw [em]
    refine ⟨_, rfl, _, rfl, _, _, rfl, rfl, .inl ⟨by omega, by omega⟩, _, rfl, _, _, rfl, rfl, .inl ⟨by decide, by decide⟩, _, _, rfl, rfl, _, _, rfl, rfl,
      .inl ⟨_, rfl, _, _, rfl, rfl, (by show (0 : Int) < 2147483587; decide), ?_⟩⟩
    obtain ⟨m', em', m0', m1'⟩ := rest_of (m * m + 62089 * i + 32416187) (n := 2147483587) (by decide)
    dsimp only
    rw [em']
    refine ⟨_, rfl, _, _, rfl, rfl, .inr ⟨by decide, by decide⟩, .inl ⟨_, rfl, _, _, rfl, rfl, (by show (0 : Int) < 2147483647; decide), ?_⟩⟩
    obtain ⟨n, en, n0, n1⟩ := rest_of (m' * 48271) (n := 2147483647) (by decide)
    dsimp only
    rw [en]
    exact q n n0 (by omega)
theorem ok_random {f fh : Addr} {fd fdh : FuncData} (F : Df K "_law_random" "_law_random" s_random [] f fd) (T : TB mg)
    (FH : Df K "_law_hash" "_law_hash" s_hash [] fh fdh) (mH : mg "_law_hash" = some (.ref fh)) (bH : Binds K fdh ["_law_seed", "_law_index"] []) :
    FnOk P w K mg base CX0 2 f fd ["_law_generator_here", "_law_bound"] spRandom := by
  have GH : FnOk P w K mg base CX0 1 fh fdh ["_law_seed", "_law_index"] spHash := ok_hash FH T
  refine F.go sc_random (fun vs H Q E h => ?_) (fun cdv A outer s H vs Q E hr h => ?_)
  · obtain ⟨_, _, _, _, _, rfl, _⟩ := h
    rfl
  · obtain ⟨g, b, x, y, z, rfl, ⟨hg, hx, hy, hz, hz'⟩, hb, hb', q⟩ := h
    refine ⟨_, pss_cons (ps_if (pt_cmpR op_gt (pe_ix ix_list (pv 0) pe_int (fun _ _ => rfl)) pe_int (nomark _)) (pss_cons (ps_set (i := 2) sc_random.nd rfl (.inl rfl) (pe_op op_mod (pe_callTy call_int1 (by rfl) T.int (by decide +kernel) (pa_cons (pe_ix ix_list (pv 0) pe_int (fun _ _ => rfl)) pa_nil)) (pv 1)))
       (pss_cons (ps_asg (pe_op op_fdivW (pe_ix ix_list (pv 0) pe_int (fun _ _ => rfl)) (pv 1)) (pg_sub (pv 0) pe_int set_list))
       (pss_one (ps_ret (pv 2))))) pss_nil)
     (pss_cons (ps_set (i := 2) sc_random.nd rfl (.inl rfl) pe_int)
     (pss_cons (ps_for PassesOwn.never rfl (pi_range1 (by rfl) T.range (pa_cons (pe_op op_add pe_int (pe_op op_fdivW (pe_bits (pv 1)) pe_int)) pa_nil)) (pg_name (i := 3) sc_random.nd rfl (.inl rfl))
      (pss_cons (ps_asg (pe_op op_add (pe_ix ix_list (pv 0) pe_int (fun _ _ => rfl)) pe_int) (pg_sub (pv 0) pe_int set_list))
       (pss_one (ps_set (i := 2) sc_random.nd rfl (.inl rfl) (pe_op op_add (pe_op op_mul (pv 2) pe_int) (pe_call GH hr (by rfl) mH FH.kp bH .nil pass0 (pa_cons (pe_ix ix_list (pv 0) pe_int (fun _ _ => rfl)) (pa_cons (pe_ix ix_list (pv 0) pe_int (fun _ _ => rfl)) pa_nil))))))))
     (pss_one (ps_ret (pe_op op_mod (pe_callTy call_int1 (by rfl) T.int (by decide +kernel) (pa_cons (pv 2) pa_nil)) (pv 1)))))), ?_⟩
    have sq : SqL K H g [.int x, .int y, .int z] := SqL.of hg
    refine ⟨_, rfl, _, _, 0, _, rfl, rfl, sq, atI_nat (j := 0) rfl, _, _, rfl, rfl, _, rfl, ite2 (fun c => ?_) (fun c => ?_)⟩
    · -- digits of the seed
      have x0 : 0 < x := of_decide_eq_true c
      obtain ⟨r, er, r0, r1⟩ := rest_of x (n := b) hb
      have d0 : 0 ≤ x / b := Int.ediv_nonneg hx (by omega)
      have d1 : x / b ≤ x := Int.ediv_le_self _ hx
      refine ⟨_, rfl, _, _, 0, _, rfl, rfl, sq, atI_nat (j := 0) rfl, .inl ⟨_, rfl, _, rfl, _, _, rfl, rfl, hb, ?_⟩⟩
      dsimp only
      rw [er]
      refine ⟨_, rfl, _, _, 0, _, rfl, rfl, sq, atI_nat (j := 0) rfl, _, rfl, _, _, rfl, rfl, wide_div hb hb' (by decide) (by decide),
        _, rfl, g, _, 0, 0, rfl, rfl, hg, rfl, _, rfl, ?_⟩
      exact q r (x / b) z _ r0 r1 ⟨upd_same, d0, hy, hz, by omega⟩ (fun a ha => upd_ne ha) (by omega)
    · -- a hash for each thirty bits
      have nb : (Builtin.Int.intBits b : Int) ≤ 8999 := bits_small hb hb'
      refine ⟨_, rfl, _, rfl, _, _, rfl, rfl, wide_div (b := 9) (by decide) (by decide) (by decide) (by decide), _, _, rfl, rfl, _, rfl, by omega, by omega, ?_⟩
      have nt : (1 + (Builtin.Int.intBits b : Int) / 30).toNat ≤ 300 := by omega
      refine for_range (lo := 0) (n := (1 + (Builtin.Int.intBits b : Int) / 30).toNat) (fun j σ' H' => ∃ (dr z' : Int) (t : Option V), σ' = [some (.ref g), some (.int b), some (.int dr), t] ∧ 0 ≤ dr ∧
          (H' g = some (.lst [.int x, .int y, .int z']) ∧ z ≤ z' ∧ z' ≤ z + j) ∧ ∀ a, a ≠ g → H' a = H a)
        ⟨0, z, none, rfl, by decide, ⟨hg, by omega, by omega⟩, fun _ _ => rfl⟩ (fun j σ' H' hj hp => ?_) (fun σ' H' hp => ?_)
      · obtain ⟨dr, z', t, rfl, hdr, ⟨hg', hz1, hz2⟩, oth⟩ := hp
        have sq' : SqL K H' g [.int x, .int y, .int z'] := SqL.of hg'
        refine ⟨_, rfl, _, _, 2, _, rfl, rfl, sq', atI_nat (j := 2) rfl, _, _, rfl, rfl, _, rfl, g, _, 2, 2, rfl, rfl, hg', rfl, ?_⟩
        have hg2 : (upd H' g (.lst ([V.int x, V.int y, V.int z'].set 2 (V.int (z' + 1))))) g = some (.lst [.int x, .int y, .int (z' + 1)]) := upd_same
        have sq2 := SqL.of (K := K) hg2
        refine ⟨_, rfl, _, _, rfl, rfl, .inr ⟨by decide, by decide⟩, _, rfl, _, _, 1, _, rfl, rfl, sq2, atI_nat (j := 1) rfl, _, rfl, _, _, 2, _, rfl, rfl, sq2, atI_nat (j := 2) rfl,
          y, z' + 1, rfl, by omega, by omega, fun n n0 n1 => ⟨_, _, rfl, rfl, dr * 2147483587 + n, z' + 1, _, rfl, by omega, ⟨hg2, by omega, by omega⟩, fun a ha => ?_⟩⟩
        exact (upd_ne ha).trans (oth a ha)
      · obtain ⟨dr, z', t, rfl, hdr, ⟨hg', hz1, hz2⟩, oth⟩ := hp
        obtain ⟨r, er, r0, r1⟩ := rest_of dr (n := b) hb
        refine ⟨_, rfl, .inl ⟨_, rfl, _, rfl, _, _, rfl, rfl, hb, ?_⟩⟩
        dsimp only
        rw [er]
        exact q r x z' H' r0 r1 ⟨hg', hx, hy, by omega, by omega⟩ oth (by omega)
theorem ok_cell {f : Addr} {fd : FuncData} (F : Df K "_law_cell" "_law_cell" s_cell [] f fd) (T : TB mg) :
    FnOk P w K mg base CX0 1 f fd ["_law_script", "_law_index"] (spCellA K) := by
  refine F.go sc_cell (fun vs H Q E h => ?_) (fun cdv A outer s H vs Q E hr h => ?_)
  · obtain ⟨_, _, _, rfl, _⟩ := h
    rfl
  · obtain ⟨a, ns, i, rfl, hS, q⟩ := h
    refine ⟨_, pss_cons (ps_if (pt_cmpR op_lt (pv 1) (pe_callB call_len_seq (by rfl) T.len (by decide +kernel) (pa_cons (pv 0) pa_nil)) (nomark _)) (pss_one (ps_ret (pe_ix ix_list (pv 0) (pv 1) (fun _ _ => rfl)))) pss_nil)
     (pss_one (ps_ret (pe_op op_mod (pe_callB (cr_sum rfl) (by rfl) T.sum (by decide +kernel) (pa_cons (pe_slice sl_list (pv 0) po_none (po_some pe_int)) pa_nil)) pe_int))), ?_⟩
    refine ⟨_, rfl, _, rfl, _, _, rfl, .inl hS, _, _, rfl, rfl, _, rfl, ite2 (fun c => ?_) (fun c => ?_)⟩
    · have lt : i < ns.length := by
        have c' : (i : Int) < ((ns.map V.int).length : Nat) := of_decide_eq_true c
        rw [List.length_map] at c'
        omega
      have at_ : (ns.map V.int)[i]? = some (.int ns[i]) := by
        rw [List.getElem?_map, List.getElem?_eq_getElem lt] <;> rfl
      exact ⟨_, rfl, _, rfl, _, _, _, _, rfl, rfl, hS, atI_nat at_, q _ _ (Evl.Ex.refl H)⟩
    · refine ⟨_, rfl, _, rfl, a, _, rfl, hS, fun p np => ?_⟩
      obtain ⟨ms, em⟩ := cut_ints ns none (some 1)
      refine ⟨p, ms, rfl, SqL.of (by rw [← em]; exact upd_same), _, _, rfl, rfl, (by show (0 : Int) < 1000003; decide), ?_⟩
      exact q _ _ (Evl.Ex.new np)
theorem ok_generator {f fc : Addr} {fd fdc : FuncData} (F : Df K "_law_generator" "_law_generator" s_generator [] f fd) (T : TB mg)
    (FC : Df K "_law_cell" "_law_cell" s_cell [] fc fdc) (mC : mg "_law_cell" = some (.ref fc)) (bC : Binds K fdc ["_law_script", "_law_index"] []) :
    FnOk P w K mg base CX0 2 f fd ["_law_script", "_law_index"] (spGenerator K) := by
  have GC : FnOk P w K mg base CX0 1 fc fdc ["_law_script", "_law_index"] (spCellA K) := ok_cell FC T
  refine F.go sc_generator (fun vs H Q E h => ?_) (fun cdv A outer s H vs Q E hr h => ?_)
  · obtain ⟨_, _, _, rfl, _⟩ := h
    rfl
  · obtain ⟨a, ns, i, rfl, hS, hi, q⟩ := h
    refine ⟨_, pss_cons (ps_set (i := 2) sc_generator.nd rfl (.inl rfl) (pe_call GC hr (by rfl) mC FC.kp bC .nil pass0 (pa_cons (pv 0) (pa_cons (pv 1) pa_nil))))
     (pss_one (ps_ret (pe_lst (pa_cons (pe_op op_mod (pe_callTy call_int1 (by rfl) T.int (by decide +kernel) (pa_cons (pe_callB (call_max2 rfl) (by rfl) T.max (by decide +kernel) (pa_cons (pe_op op_sub (pv 2) (pe_op op_powW pe_int pe_int)) (pa_cons pe_int pa_nil))) pa_nil)) (pe_op op_powW (pe_op op_powW pe_int pe_int) pe_int)) (pa_cons (pe_op op_mod (pe_callTy call_int1 (by rfl) T.int (by decide +kernel) (pa_cons (pv 2) pa_nil)) pe_int) (pa_cons (pe_op op_mul pe_int (pv 1)) pa_nil)))))), ?_⟩
    refine ⟨_, rfl, _, rfl, a, ns, i, rfl, hS, fun c H1 e1 => ?_⟩
    refine ⟨_, rfl, _, _, rfl, rfl, pow_a, _, _, rfl, rfl, _, _, rfl, .inl ⟨_, rfl, _, _, rfl, rfl, pow_b, _, _, rfl, rfl, pow_c, _, _, rfl, rfl, pow_d,
      _, rfl, .inl ⟨_, rfl, _, _, rfl, rfl, (by show (0 : Int) < 2147483647; decide), _, rfl, _, _, rfl, rfl, .inl ⟨by decide, by decide⟩, by show 3 ≤ sizeLine; decide, fun p np => ?_⟩⟩⟩
    have y1 : c % 2147483647 < 2147483647 := Int.emod_lt_of_pos _ (by decide)
    exact q p _ (Evl.fresh_back e1 np) (e1.trans (Evl.Ex.new np)) ⟨_, c % 2147483647, 1000 * i, upd_same, Int.emod_nonneg _ (by have := pow_d; omega),
      ⟨Int.emod_nonneg _ (by decide), by omega⟩, by omega, by omega⟩
end

/-! ### the errors' classes -/
def nm (i : Nat) : Str := (["InvalidNumber", "InvalidWidth", "InvalidWords", "InvalidPlaces", "InvalidItems", "InvalidKnown", "InvalidPrices", "InvalidGrid", "InvalidLine", "InvalidDeed", "Unfit", "TooMany", "NothingToUndo", "NothingToRedo"] : List Str).getD i ""
abbrev ini (i : Nat) : Stmt := inClass (topS (2 + i)) 0
/-- what of the text the proof uses -/
structure T3 (K : PySem.W.Frag) (mg : Str → Option Value) (C fI : Nat → Addr) (fdI : Nat → FuncData) (B : Addr) : Prop where
  b : TB mg
  repr : mg "repr" = none
  isi : mg "isinstance" = none
  enum : mg "enumerate" = none
  ve : mg "ValueError" = none
  mC : ∀ i, i < 14 → mg (nm i) = some (.ref (C i))
  mB : mg "CodeError" = some (.ref B)
  base : BaseI K B
  e : ∀ i, i < 12 → ErrC K (C i) (fI i)
  bi : ∀ i, i < 12 → ErrB K (fdI i)
  k : ∀ i, i < 14 → ErrK K (C i)
  dict : ∀ i, i < 12 → PySem.W.hasDictIn K (C i) = true
  no : ∀ i, i < 12 → PySem.W.findIn K (.ref (C i)) "value" = some none
  kit : ∀ i j, i < 14 → j < 14 → PySem.W.kitOne K (.ref (C i)) (.ref (C j)) = some (decide (j = i))
  kitB : ∀ i, i < 14 → PySem.W.kitOne K (.ref (C i)) (.ref B) = some true
  kitV : ∀ i, i < 14 → PySem.W.kitOne K (.ref (C i)) (.type "ValueError") = some true
  exc : ∀ i, 12 ≤ i → i < 14 → PySem.W.excIn K (C i) PySem.HandSPX.veTail "ValueError.__new__" = true
  keep : ∀ i, i < 14 → PySem.W.keepIn K (.ref (C i)) = true

section
variable {P : Program} {w : World} {K : PySem.W.Frag} {mg : Str → Option Value} {base : Heap} {C fI : Nat → Addr} {fdI : Nat → FuncData} {B : Addr}
theorem sc_ini0 : FnScope ["self", "value"] ["self", "value"] (defScope (ini 0)) :=
  ⟨rfl, rfl, rfl, by decide +kernel, rfl, by decide +kernel, by decide +kernel⟩
theorem ok_ini0 {f : Addr} {fd : FuncData} (F : Df K "__init__" "InvalidNumber.__init__" (ini 0) [.non] f fd) (T : T3 K mg C fI fdI B) :
    FnOk P w K mg base CX0 1 f fd ["self", "value"] (spErr (C 0)) := by
  refine F.go sc_ini0 (fun vs H Q E h => ?_) (fun cdv A outer s H vs Q E hr h => ?_)
  · obtain ⟨_, _, rfl, _⟩ := h
    rfl
  · obtain ⟨a, v, rfl, ha, q⟩ := h
    refine ⟨_, pss_cons (ps_expr (pe_ceinit (by rfl) T.mB T.base (pa_cons (pv 0) (pa_cons pe_str pa_nil)))) (pss_one (ps_ost (pv 0) (pv 1))), ?_⟩
    exact ⟨_, rfl, a, C 0, _, rfl, by show 1 ≤ 1000; decide, (T.e 0 (by decide)).o, ha, _, rfl, _, rfl, a, C 0, rfl, (T.e 0 (by decide)).o, T.no 0 (by decide), .inl ⟨ha, fun d nd ne => q d nd ne⟩⟩
theorem sc_ini1 : FnScope ["self", "value"] ["self", "value"] (defScope (ini 1)) :=
  ⟨rfl, rfl, rfl, by decide +kernel, rfl, by decide +kernel, by decide +kernel⟩
theorem ok_ini1 {f : Addr} {fd : FuncData} (F : Df K "__init__" "InvalidWidth.__init__" (ini 1) [.non] f fd) (T : T3 K mg C fI fdI B) :
    FnOk P w K mg base CX0 1 f fd ["self", "value"] (spErr (C 1)) := by
  refine F.go sc_ini1 (fun vs H Q E h => ?_) (fun cdv A outer s H vs Q E hr h => ?_)
  · obtain ⟨_, _, rfl, _⟩ := h
    rfl
  · obtain ⟨a, v, rfl, ha, q⟩ := h
    refine ⟨_, pss_cons (ps_expr (pe_ceinit (by rfl) T.mB T.base (pa_cons (pv 0) (pa_cons pe_str pa_nil)))) (pss_one (ps_ost (pv 0) (pv 1))), ?_⟩
    exact ⟨_, rfl, a, C 1, _, rfl, by show 1 ≤ 1000; decide, (T.e 1 (by decide)).o, ha, _, rfl, _, rfl, a, C 1, rfl, (T.e 1 (by decide)).o, T.no 1 (by decide), .inl ⟨ha, fun d nd ne => q d nd ne⟩⟩
theorem sc_ini2 : FnScope ["self", "value"] ["self", "value"] (defScope (ini 2)) :=
  ⟨rfl, rfl, rfl, by decide +kernel, rfl, by decide +kernel, by decide +kernel⟩
theorem ok_ini2 {f : Addr} {fd : FuncData} (F : Df K "__init__" "InvalidWords.__init__" (ini 2) [.non] f fd) (T : T3 K mg C fI fdI B) :
    FnOk P w K mg base CX0 1 f fd ["self", "value"] (spErr (C 2)) := by
  refine F.go sc_ini2 (fun vs H Q E h => ?_) (fun cdv A outer s H vs Q E hr h => ?_)
  · obtain ⟨_, _, rfl, _⟩ := h
    rfl
  · obtain ⟨a, v, rfl, ha, q⟩ := h
    refine ⟨_, pss_cons (ps_expr (pe_ceinit (by rfl) T.mB T.base (pa_cons (pv 0) (pa_cons pe_str pa_nil)))) (pss_one (ps_ost (pv 0) (pv 1))), ?_⟩
    exact ⟨_, rfl, a, C 2, _, rfl, by show 1 ≤ 1000; decide, (T.e 2 (by decide)).o, ha, _, rfl, _, rfl, a, C 2, rfl, (T.e 2 (by decide)).o, T.no 2 (by decide), .inl ⟨ha, fun d nd ne => q d nd ne⟩⟩
theorem sc_ini3 : FnScope ["self", "value"] ["self", "value"] (defScope (ini 3)) :=
  ⟨rfl, rfl, rfl, by decide +kernel, rfl, by decide +kernel, by decide +kernel⟩
theorem ok_ini3 {f : Addr} {fd : FuncData} (F : Df K "__init__" "InvalidPlaces.__init__" (ini 3) [.non] f fd) (T : T3 K mg C fI fdI B) :
    FnOk P w K mg base CX0 1 f fd ["self", "value"] (spErr (C 3)) := by
  refine F.go sc_ini3 (fun vs H Q E h => ?_) (fun cdv A outer s H vs Q E hr h => ?_)
  · obtain ⟨_, _, rfl, _⟩ := h
    rfl
  · obtain ⟨a, v, rfl, ha, q⟩ := h
    refine ⟨_, pss_cons (ps_expr (pe_ceinit (by rfl) T.mB T.base (pa_cons (pv 0) (pa_cons pe_str pa_nil)))) (pss_one (ps_ost (pv 0) (pv 1))), ?_⟩
    exact ⟨_, rfl, a, C 3, _, rfl, by show 1 ≤ 1000; decide, (T.e 3 (by decide)).o, ha, _, rfl, _, rfl, a, C 3, rfl, (T.e 3 (by decide)).o, T.no 3 (by decide), .inl ⟨ha, fun d nd ne => q d nd ne⟩⟩
theorem sc_ini4 : FnScope ["self", "value"] ["self", "value"] (defScope (ini 4)) :=
  ⟨rfl, rfl, rfl, by decide +kernel, rfl, by decide +kernel, by decide +kernel⟩
theorem ok_ini4 {f : Addr} {fd : FuncData} (F : Df K "__init__" "InvalidItems.__init__" (ini 4) [.non] f fd) (T : T3 K mg C fI fdI B) :
    FnOk P w K mg base CX0 1 f fd ["self", "value"] (spErr (C 4)) := by
  refine F.go sc_ini4 (fun vs H Q E h => ?_) (fun cdv A outer s H vs Q E hr h => ?_)
  · obtain ⟨_, _, rfl, _⟩ := h
    rfl
  · obtain ⟨a, v, rfl, ha, q⟩ := h
    refine ⟨_, pss_cons (ps_expr (pe_ceinit (by rfl) T.mB T.base (pa_cons (pv 0) (pa_cons pe_str pa_nil)))) (pss_one (ps_ost (pv 0) (pv 1))), ?_⟩
    exact ⟨_, rfl, a, C 4, _, rfl, by show 1 ≤ 1000; decide, (T.e 4 (by decide)).o, ha, _, rfl, _, rfl, a, C 4, rfl, (T.e 4 (by decide)).o, T.no 4 (by decide), .inl ⟨ha, fun d nd ne => q d nd ne⟩⟩
theorem sc_ini5 : FnScope ["self", "value"] ["self", "value"] (defScope (ini 5)) :=
  ⟨rfl, rfl, rfl, by decide +kernel, rfl, by decide +kernel, by decide +kernel⟩
theorem ok_ini5 {f : Addr} {fd : FuncData} (F : Df K "__init__" "InvalidKnown.__init__" (ini 5) [.non] f fd) (T : T3 K mg C fI fdI B) :
    FnOk P w K mg base CX0 1 f fd ["self", "value"] (spErr (C 5)) := by
  refine F.go sc_ini5 (fun vs H Q E h => ?_) (fun cdv A outer s H vs Q E hr h => ?_)
  · obtain ⟨_, _, rfl, _⟩ := h
    rfl
  · obtain ⟨a, v, rfl, ha, q⟩ := h
    refine ⟨_, pss_cons (ps_expr (pe_ceinit (by rfl) T.mB T.base (pa_cons (pv 0) (pa_cons pe_str pa_nil)))) (pss_one (ps_ost (pv 0) (pv 1))), ?_⟩
    exact ⟨_, rfl, a, C 5, _, rfl, by show 1 ≤ 1000; decide, (T.e 5 (by decide)).o, ha, _, rfl, _, rfl, a, C 5, rfl, (T.e 5 (by decide)).o, T.no 5 (by decide), .inl ⟨ha, fun d nd ne => q d nd ne⟩⟩
theorem sc_ini6 : FnScope ["self", "value"] ["self", "value"] (defScope (ini 6)) :=
  ⟨rfl, rfl, rfl, by decide +kernel, rfl, by decide +kernel, by decide +kernel⟩
theorem ok_ini6 {f : Addr} {fd : FuncData} (F : Df K "__init__" "InvalidPrices.__init__" (ini 6) [.non] f fd) (T : T3 K mg C fI fdI B) :
    FnOk P w K mg base CX0 1 f fd ["self", "value"] (spErr (C 6)) := by
  refine F.go sc_ini6 (fun vs H Q E h => ?_) (fun cdv A outer s H vs Q E hr h => ?_)
  · obtain ⟨_, _, rfl, _⟩ := h
    rfl
  · obtain ⟨a, v, rfl, ha, q⟩ := h
    refine ⟨_, pss_cons (ps_expr (pe_ceinit (by rfl) T.mB T.base (pa_cons (pv 0) (pa_cons pe_str pa_nil)))) (pss_one (ps_ost (pv 0) (pv 1))), ?_⟩
    exact ⟨_, rfl, a, C 6, _, rfl, by show 1 ≤ 1000; decide, (T.e 6 (by decide)).o, ha, _, rfl, _, rfl, a, C 6, rfl, (T.e 6 (by decide)).o, T.no 6 (by decide), .inl ⟨ha, fun d nd ne => q d nd ne⟩⟩
theorem sc_ini7 : FnScope ["self", "value"] ["self", "value"] (defScope (ini 7)) :=
  ⟨rfl, rfl, rfl, by decide +kernel, rfl, by decide +kernel, by decide +kernel⟩
theorem ok_ini7 {f : Addr} {fd : FuncData} (F : Df K "__init__" "InvalidGrid.__init__" (ini 7) [.non] f fd) (T : T3 K mg C fI fdI B) :
    FnOk P w K mg base CX0 1 f fd ["self", "value"] (spErr (C 7)) := by
  refine F.go sc_ini7 (fun vs H Q E h => ?_) (fun cdv A outer s H vs Q E hr h => ?_)
  · obtain ⟨_, _, rfl, _⟩ := h
    rfl
  · obtain ⟨a, v, rfl, ha, q⟩ := h
    refine ⟨_, pss_cons (ps_expr (pe_ceinit (by rfl) T.mB T.base (pa_cons (pv 0) (pa_cons pe_str pa_nil)))) (pss_one (ps_ost (pv 0) (pv 1))), ?_⟩
    exact ⟨_, rfl, a, C 7, _, rfl, by show 1 ≤ 1000; decide, (T.e 7 (by decide)).o, ha, _, rfl, _, rfl, a, C 7, rfl, (T.e 7 (by decide)).o, T.no 7 (by decide), .inl ⟨ha, fun d nd ne => q d nd ne⟩⟩
theorem sc_ini8 : FnScope ["self", "value"] ["self", "value"] (defScope (ini 8)) :=
  ⟨rfl, rfl, rfl, by decide +kernel, rfl, by decide +kernel, by decide +kernel⟩
theorem ok_ini8 {f : Addr} {fd : FuncData} (F : Df K "__init__" "InvalidLine.__init__" (ini 8) [.non] f fd) (T : T3 K mg C fI fdI B) :
    FnOk P w K mg base CX0 1 f fd ["self", "value"] (spErr (C 8)) := by
  refine F.go sc_ini8 (fun vs H Q E h => ?_) (fun cdv A outer s H vs Q E hr h => ?_)
  · obtain ⟨_, _, rfl, _⟩ := h
    rfl
  · obtain ⟨a, v, rfl, ha, q⟩ := h
    refine ⟨_, pss_cons (ps_expr (pe_ceinit (by rfl) T.mB T.base (pa_cons (pv 0) (pa_cons pe_str pa_nil)))) (pss_one (ps_ost (pv 0) (pv 1))), ?_⟩
    exact ⟨_, rfl, a, C 8, _, rfl, by show 1 ≤ 1000; decide, (T.e 8 (by decide)).o, ha, _, rfl, _, rfl, a, C 8, rfl, (T.e 8 (by decide)).o, T.no 8 (by decide), .inl ⟨ha, fun d nd ne => q d nd ne⟩⟩
theorem sc_ini9 : FnScope ["self", "value"] ["self", "value"] (defScope (ini 9)) :=
  ⟨rfl, rfl, rfl, by decide +kernel, rfl, by decide +kernel, by decide +kernel⟩
theorem ok_ini9 {f : Addr} {fd : FuncData} (F : Df K "__init__" "InvalidDeed.__init__" (ini 9) [.non] f fd) (T : T3 K mg C fI fdI B) :
    FnOk P w K mg base CX0 1 f fd ["self", "value"] (spErr (C 9)) := by
  refine F.go sc_ini9 (fun vs H Q E h => ?_) (fun cdv A outer s H vs Q E hr h => ?_)
  · obtain ⟨_, _, rfl, _⟩ := h
    rfl
  · obtain ⟨a, v, rfl, ha, q⟩ := h
    refine ⟨_, pss_cons (ps_expr (pe_ceinit (by rfl) T.mB T.base (pa_cons (pv 0) (pa_cons pe_str pa_nil)))) (pss_one (ps_ost (pv 0) (pv 1))), ?_⟩
    exact ⟨_, rfl, a, C 9, _, rfl, by show 1 ≤ 1000; decide, (T.e 9 (by decide)).o, ha, _, rfl, _, rfl, a, C 9, rfl, (T.e 9 (by decide)).o, T.no 9 (by decide), .inl ⟨ha, fun d nd ne => q d nd ne⟩⟩
theorem sc_ini10 : FnScope ["self", "value"] ["self", "value"] (defScope (ini 10)) :=
  ⟨rfl, rfl, rfl, by decide +kernel, rfl, by decide +kernel, by decide +kernel⟩
theorem ok_ini10 {f : Addr} {fd : FuncData} (F : Df K "__init__" "Unfit.__init__" (ini 10) [.non] f fd) (T : T3 K mg C fI fdI B) :
    FnOk P w K mg base CX0 1 f fd ["self", "value"] (spErr (C 10)) := by
  refine F.go sc_ini10 (fun vs H Q E h => ?_) (fun cdv A outer s H vs Q E hr h => ?_)
  · obtain ⟨_, _, rfl, _⟩ := h
    rfl
  · obtain ⟨a, v, rfl, ha, q⟩ := h
    refine ⟨_, pss_cons (ps_expr (pe_ceinit (by rfl) T.mB T.base (pa_cons (pv 0) (pa_cons pe_str pa_nil)))) (pss_one (ps_ost (pv 0) (pv 1))), ?_⟩
    exact ⟨_, rfl, a, C 10, _, rfl, by show 1 ≤ 1000; decide, (T.e 10 (by decide)).o, ha, _, rfl, _, rfl, a, C 10, rfl, (T.e 10 (by decide)).o, T.no 10 (by decide), .inl ⟨ha, fun d nd ne => q d nd ne⟩⟩
theorem sc_ini11 : FnScope ["self", "value"] ["self", "value"] (defScope (ini 11)) :=
  ⟨rfl, rfl, rfl, by decide +kernel, rfl, by decide +kernel, by decide +kernel⟩
theorem ok_ini11 {f : Addr} {fd : FuncData} (F : Df K "__init__" "TooMany.__init__" (ini 11) [.non] f fd) (T : T3 K mg C fI fdI B) :
    FnOk P w K mg base CX0 1 f fd ["self", "value"] (spErr (C 11)) := by
  refine F.go sc_ini11 (fun vs H Q E h => ?_) (fun cdv A outer s H vs Q E hr h => ?_)
  · obtain ⟨_, _, rfl, _⟩ := h
    rfl
  · obtain ⟨a, v, rfl, ha, q⟩ := h
    refine ⟨_, pss_cons (ps_expr (pe_ceinit (by rfl) T.mB T.base (pa_cons (pv 0) (pa_cons pe_str pa_nil)))) (pss_one (ps_ost (pv 0) (pv 1))), ?_⟩
    exact ⟨_, rfl, a, C 11, _, rfl, by show 1 ≤ 1000; decide, (T.e 11 (by decide)).o, ha, _, rfl, _, rfl, a, C 11, rfl, (T.e 11 (by decide)).o, T.no 11 (by decide), .inl ⟨ha, fun d nd ne => q d nd ne⟩⟩
/-- each error's __init__ keeps its promise -/
def Inits (P : Program) (w : World) (K : PySem.W.Frag) (mg : Str → Option Value) (base : Heap) (C fI : Nat → Addr) (fdI : Nat → FuncData) : Prop :=
  ∀ i, i < 12 → FnOk P w K mg base CX0 1 (fI i) (fdI i) ["self", "value"] (spErr (C i))
def errs (C : Nat → Addr) (v : V) : List VP := [IsErr (C 0) v, IsErr (C 1) v, IsErr (C 2) v, IsErr (C 3) v, IsErr (C 4) v, IsErr (C 5) v, IsErr (C 6) v, IsErr (C 7) v, IsErr (C 8) v, IsErr (C 9) v, IsErr (C 10) v, IsErr (C 11) v]

/-- a new list of the twelve errors with this value -/
def spMade (C : Nat → Addr) : Sp := fun vs H Q _ => ∃ v, vs = [v] ∧
  ∀ p xs H', H p = none → Ex H H' → H' p = some (.lst xs) → Alls H' (errs C v) xs → Q (.ref p) H'
def spEmpty (C : Nat → Addr) : Sp := fun vs H Q _ => vs = [] ∧
  ∀ p xs H', H p = none → Ex H H' → H' p = some (.lst xs) → Alls H' (errs C .non) xs → Q (.ref p) H'
abbrev s_law_made : Stmt := topS 21
theorem sc_law_made : FnScope ["_law_value", "_law_found"] ["_law_value"] (defScope s_law_made) := ⟨rfl, rfl, rfl, by decide +kernel, rfl, by decide +kernel, by decide +kernel⟩
theorem ok_law_made {f : Addr} {fd : FuncData} (F : Df K "_law_made" "_law_made" s_law_made [] f fd) (T : T3 K mg C fI fdI B) (GI : Inits P w K mg base C fI fdI) :
    FnOk P w K mg base CX0 3 f fd ["_law_value"] (spMade C) := by
  refine F.go sc_law_made (fun vs H Q E h => ?_) (fun cdv A outer s H vs Q E hr h => ?_)
  · obtain ⟨_, rfl, _⟩ := h
    rfl
  · obtain ⟨v, rfl, q⟩ := h
    refine ⟨_, (pss_cons (ps_set (i := 1) sc_law_made.nd rfl (.inl rfl) (pe_lst (pa_cons (pe_err (T.e 0 (by decide)) (T.bi 0 (by decide)) (GI 0 (by decide)) hr (by rfl) (T.mC 0 (by decide)) (pv 0)) (pa_cons (pe_err (T.e 1 (by decide)) (T.bi 1 (by decide)) (GI 1 (by decide)) hr (by rfl) (T.mC 1 (by decide)) (pv 0)) (pa_cons (pe_err (T.e 2 (by decide)) (T.bi 2 (by decide)) (GI 2 (by decide)) hr (by rfl) (T.mC 2 (by decide)) (pv 0)) (pa_cons (pe_err (T.e 3 (by decide)) (T.bi 3 (by decide)) (GI 3 (by decide)) hr (by rfl) (T.mC 3 (by decide)) (pv 0)) pa_nil))))))
      (pss_cons (ps_set (i := 1) sc_law_made.nd rfl (.inl rfl) (pe_op op_cat (pv 1) (pe_lst (pa_cons (pe_err (T.e 4 (by decide)) (T.bi 4 (by decide)) (GI 4 (by decide)) hr (by rfl) (T.mC 4 (by decide)) (pv 0)) (pa_cons (pe_err (T.e 5 (by decide)) (T.bi 5 (by decide)) (GI 5 (by decide)) hr (by rfl) (T.mC 5 (by decide)) (pv 0)) (pa_cons (pe_err (T.e 6 (by decide)) (T.bi 6 (by decide)) (GI 6 (by decide)) hr (by rfl) (T.mC 6 (by decide)) (pv 0)) (pa_cons (pe_err (T.e 7 (by decide)) (T.bi 7 (by decide)) (GI 7 (by decide)) hr (by rfl) (T.mC 7 (by decide)) (pv 0)) pa_nil)))))))
      (pss_one (ps_ret (pe_op op_cat (pv 1) (pe_lst (pa_cons (pe_err (T.e 8 (by decide)) (T.bi 8 (by decide)) (GI 8 (by decide)) hr (by rfl) (T.mC 8 (by decide)) (pv 0)) (pa_cons (pe_err (T.e 9 (by decide)) (T.bi 9 (by decide)) (GI 9 (by decide)) hr (by rfl) (T.mC 9 (by decide)) (pv 0)) (pa_cons (pe_err (T.e 10 (by decide)) (T.bi 10 (by decide)) (GI 10 (by decide)) hr (by rfl) (T.mC 10 (by decide)) (pv 0)) (pa_cons (pe_err (T.e 11 (by decide)) (T.bi 11 (by decide)) (GI 11 (by decide)) hr (by rfl) (T.mC 11 (by decide)) (pv 0)) pa_nil)))))))))), ?_⟩
    refine q_asgLp (elp_lst (evpA_cons (ep_err (ev_var rfl)) (evpA_cons (ep_err (ev_var rfl)) (evpA_cons (ep_err (ev_var rfl)) (evpA_cons (ep_err (ev_var rfl)) evpA_nil stays_err) stays_err) stays_err) stays_err) (by exact Nat.le_of_ble_eq_true rfl)) fun p1 xs1 H1 n1 e1 h1 k1 => ?_
    refine q_asgLp (elp_cat h1 k1 (ev_var rfl) (elp_lst (evpA_cons (ep_err (ev_var rfl)) (evpA_cons (ep_err (ev_var rfl)) (evpA_cons (ep_err (ev_var rfl)) (evpA_cons (ep_err (ev_var rfl)) evpA_nil stays_err) stays_err) stays_err) stays_err) (by exact Nat.le_of_ble_eq_true rfl)) (by exact Nat.le_of_ble_eq_true rfl)) fun p2 xs2 H2 n2 e2 h2 k2 => ?_
    exact s_retLp (elp_cat h2 k2 (ev_var rfl) (elp_lst (evpA_cons (ep_err (ev_var rfl)) (evpA_cons (ep_err (ev_var rfl)) (evpA_cons (ep_err (ev_var rfl)) (evpA_cons (ep_err (ev_var rfl)) evpA_nil stays_err) stays_err) stays_err) stays_err) (by exact Nat.le_of_ble_eq_true rfl)) (by exact Nat.le_of_ble_eq_true rfl)) fun p xs H' n' e' h' k' => q p xs H' (fresh_back (e1.trans e2) n') ((e1.trans e2).trans e') h' k'
abbrev s_law_named : Stmt := topS 22
theorem sc_law_named : FnScope ["_law_value", "_law_found"] ["_law_value"] (defScope s_law_named) := ⟨rfl, rfl, rfl, by decide +kernel, rfl, by decide +kernel, by decide +kernel⟩
theorem ok_law_named {f : Addr} {fd : FuncData} (F : Df K "_law_named" "_law_named" s_law_named [] f fd) (T : T3 K mg C fI fdI B) (GI : Inits P w K mg base C fI fdI) :
    FnOk P w K mg base CX0 3 f fd ["_law_value"] (spMade C) := by
  refine F.go sc_law_named (fun vs H Q E h => ?_) (fun cdv A outer s H vs Q E hr h => ?_)
  · obtain ⟨_, rfl, _⟩ := h
    rfl
  · obtain ⟨v, rfl, q⟩ := h
    refine ⟨_, (pss_cons (ps_set (i := 1) sc_law_named.nd rfl (.inl rfl) (pe_lst (pa_cons (pe_errK (T.e 0 (by decide)) (T.bi 0 (by decide)) (GI 0 (by decide)) hr (by rfl) (T.mC 0 (by decide)) (pv 0)) (pa_cons (pe_errK (T.e 1 (by decide)) (T.bi 1 (by decide)) (GI 1 (by decide)) hr (by rfl) (T.mC 1 (by decide)) (pv 0)) pa_nil))))
      (pss_cons (ps_set (i := 1) sc_law_named.nd rfl (.inl rfl) (pe_op op_cat (pv 1) (pe_lst (pa_cons (pe_errK (T.e 2 (by decide)) (T.bi 2 (by decide)) (GI 2 (by decide)) hr (by rfl) (T.mC 2 (by decide)) (pv 0)) (pa_cons (pe_errK (T.e 3 (by decide)) (T.bi 3 (by decide)) (GI 3 (by decide)) hr (by rfl) (T.mC 3 (by decide)) (pv 0)) (pa_cons (pe_errK (T.e 4 (by decide)) (T.bi 4 (by decide)) (GI 4 (by decide)) hr (by rfl) (T.mC 4 (by decide)) (pv 0)) pa_nil))))))
      (pss_cons (ps_set (i := 1) sc_law_named.nd rfl (.inl rfl) (pe_op op_cat (pv 1) (pe_lst (pa_cons (pe_errK (T.e 5 (by decide)) (T.bi 5 (by decide)) (GI 5 (by decide)) hr (by rfl) (T.mC 5 (by decide)) (pv 0)) (pa_cons (pe_errK (T.e 6 (by decide)) (T.bi 6 (by decide)) (GI 6 (by decide)) hr (by rfl) (T.mC 6 (by decide)) (pv 0)) (pa_cons (pe_errK (T.e 7 (by decide)) (T.bi 7 (by decide)) (GI 7 (by decide)) hr (by rfl) (T.mC 7 (by decide)) (pv 0)) pa_nil))))))
      (pss_cons (ps_set (i := 1) sc_law_named.nd rfl (.inl rfl) (pe_op op_cat (pv 1) (pe_lst (pa_cons (pe_errK (T.e 8 (by decide)) (T.bi 8 (by decide)) (GI 8 (by decide)) hr (by rfl) (T.mC 8 (by decide)) (pv 0)) (pa_cons (pe_errK (T.e 9 (by decide)) (T.bi 9 (by decide)) (GI 9 (by decide)) hr (by rfl) (T.mC 9 (by decide)) (pv 0)) (pa_cons (pe_errK (T.e 10 (by decide)) (T.bi 10 (by decide)) (GI 10 (by decide)) hr (by rfl) (T.mC 10 (by decide)) (pv 0)) pa_nil))))))
      (pss_one (ps_ret (pe_op op_cat (pv 1) (pe_lst (pa_cons (pe_errK (T.e 11 (by decide)) (T.bi 11 (by decide)) (GI 11 (by decide)) hr (by rfl) (T.mC 11 (by decide)) (pv 0)) pa_nil))))))))), ?_⟩
    refine q_asgLp (elp_lst (evpA_cons (ep_err (ev_var rfl)) (evpA_cons (ep_err (ev_var rfl)) evpA_nil stays_err) stays_err) (by exact Nat.le_of_ble_eq_true rfl)) fun p1 xs1 H1 n1 e1 h1 k1 => ?_
    refine q_asgLp (elp_cat h1 k1 (ev_var rfl) (elp_lst (evpA_cons (ep_err (ev_var rfl)) (evpA_cons (ep_err (ev_var rfl)) (evpA_cons (ep_err (ev_var rfl)) evpA_nil stays_err) stays_err) stays_err) (by exact Nat.le_of_ble_eq_true rfl)) (by exact Nat.le_of_ble_eq_true rfl)) fun p2 xs2 H2 n2 e2 h2 k2 => ?_
    refine q_asgLp (elp_cat h2 k2 (ev_var rfl) (elp_lst (evpA_cons (ep_err (ev_var rfl)) (evpA_cons (ep_err (ev_var rfl)) (evpA_cons (ep_err (ev_var rfl)) evpA_nil stays_err) stays_err) stays_err) (by exact Nat.le_of_ble_eq_true rfl)) (by exact Nat.le_of_ble_eq_true rfl)) fun p3 xs3 H3 n3 e3 h3 k3 => ?_
    refine q_asgLp (elp_cat h3 k3 (ev_var rfl) (elp_lst (evpA_cons (ep_err (ev_var rfl)) (evpA_cons (ep_err (ev_var rfl)) (evpA_cons (ep_err (ev_var rfl)) evpA_nil stays_err) stays_err) stays_err) (by exact Nat.le_of_ble_eq_true rfl)) (by exact Nat.le_of_ble_eq_true rfl)) fun p4 xs4 H4 n4 e4 h4 k4 => ?_
    exact s_retLp (elp_cat h4 k4 (ev_var rfl) (elp_lst (evpA_cons (ep_err (ev_var rfl)) evpA_nil stays_err) (by exact Nat.le_of_ble_eq_true rfl)) (by exact Nat.le_of_ble_eq_true rfl)) fun p xs H' n' e' h' k' => q p xs H' (fresh_back (((e1.trans e2).trans e3).trans e4) n') ((((e1.trans e2).trans e3).trans e4).trans e') h' k'
abbrev s_law_empty : Stmt := topS 23
theorem sc_law_empty : FnScope ["_law_found"] [] (defScope s_law_empty) := ⟨rfl, rfl, rfl, by decide +kernel, rfl, by decide +kernel, by decide +kernel⟩
theorem ok_law_empty {f : Addr} {fd : FuncData} (F : Df K "_law_empty" "_law_empty" s_law_empty [] f fd) (T : T3 K mg C fI fdI B) (GI : Inits P w K mg base C fI fdI) :
    FnOk P w K mg base CX0 3 f fd [] (spEmpty C) := by
  refine F.go sc_law_empty (fun vs H Q E h => ?_) (fun cdv A outer s H vs Q E hr h => ?_)
  · obtain ⟨rfl, _⟩ := h
    rfl
  · obtain ⟨rfl, q⟩ := h
    refine ⟨_, (pss_cons (ps_set (i := 0) sc_law_empty.nd rfl (.inl rfl) (pe_lst (pa_cons (pe_err0 (T.e 0 (by decide)) (T.bi 0 (by decide)) (GI 0 (by decide)) hr (by rfl) (T.mC 0 (by decide))) (pa_cons (pe_err0 (T.e 1 (by decide)) (T.bi 1 (by decide)) (GI 1 (by decide)) hr (by rfl) (T.mC 1 (by decide))) (pa_cons (pe_err0 (T.e 2 (by decide)) (T.bi 2 (by decide)) (GI 2 (by decide)) hr (by rfl) (T.mC 2 (by decide))) (pa_cons (pe_err0 (T.e 3 (by decide)) (T.bi 3 (by decide)) (GI 3 (by decide)) hr (by rfl) (T.mC 3 (by decide))) (pa_cons (pe_err0 (T.e 4 (by decide)) (T.bi 4 (by decide)) (GI 4 (by decide)) hr (by rfl) (T.mC 4 (by decide))) pa_nil)))))))
      (pss_cons (ps_set (i := 0) sc_law_empty.nd rfl (.inl rfl) (pe_op op_cat (pv 0) (pe_lst (pa_cons (pe_err0 (T.e 5 (by decide)) (T.bi 5 (by decide)) (GI 5 (by decide)) hr (by rfl) (T.mC 5 (by decide))) (pa_cons (pe_err0 (T.e 6 (by decide)) (T.bi 6 (by decide)) (GI 6 (by decide)) hr (by rfl) (T.mC 6 (by decide))) (pa_cons (pe_err0 (T.e 7 (by decide)) (T.bi 7 (by decide)) (GI 7 (by decide)) hr (by rfl) (T.mC 7 (by decide))) (pa_cons (pe_err0 (T.e 8 (by decide)) (T.bi 8 (by decide)) (GI 8 (by decide)) hr (by rfl) (T.mC 8 (by decide))) (pa_cons (pe_err0 (T.e 9 (by decide)) (T.bi 9 (by decide)) (GI 9 (by decide)) hr (by rfl) (T.mC 9 (by decide))) (pa_cons (pe_err0 (T.e 10 (by decide)) (T.bi 10 (by decide)) (GI 10 (by decide)) hr (by rfl) (T.mC 10 (by decide))) pa_nil)))))))))
      (pss_one (ps_ret (pe_op op_cat (pv 0) (pe_lst (pa_cons (pe_err0 (T.e 11 (by decide)) (T.bi 11 (by decide)) (GI 11 (by decide)) hr (by rfl) (T.mC 11 (by decide))) pa_nil))))))), ?_⟩
    refine q_asgLp (elp_lst (evpA_cons (ep_err ev_c) (evpA_cons (ep_err ev_c) (evpA_cons (ep_err ev_c) (evpA_cons (ep_err ev_c) (evpA_cons (ep_err ev_c) evpA_nil stays_err) stays_err) stays_err) stays_err) stays_err) (by exact Nat.le_of_ble_eq_true rfl)) fun p1 xs1 H1 n1 e1 h1 k1 => ?_
    refine q_asgLp (elp_cat h1 k1 (ev_var rfl) (elp_lst (evpA_cons (ep_err ev_c) (evpA_cons (ep_err ev_c) (evpA_cons (ep_err ev_c) (evpA_cons (ep_err ev_c) (evpA_cons (ep_err ev_c) (evpA_cons (ep_err ev_c) evpA_nil stays_err) stays_err) stays_err) stays_err) stays_err) stays_err) (by exact Nat.le_of_ble_eq_true rfl)) (by exact Nat.le_of_ble_eq_true rfl)) fun p2 xs2 H2 n2 e2 h2 k2 => ?_
    exact s_retLp (elp_cat h2 k2 (ev_var rfl) (elp_lst (evpA_cons (ep_err ev_c) evpA_nil stays_err) (by exact Nat.le_of_ble_eq_true rfl)) (by exact Nat.le_of_ble_eq_true rfl)) fun p xs H' n' e' h' k' => q p xs H' (fresh_back (e1.trans e2) n') ((e1.trans e2).trans e') h' k'
/-! ### the kinds of an error -/
def kinds (i : Nat) : List Bool := [decide (0 = i), decide (1 = i), decide (2 = i), decide (3 = i), decide (4 = i), decide (5 = i), decide (6 = i), decide (7 = i), decide (8 = i), decide (9 = i), decide (10 = i), decide (11 = i), decide (12 = i), decide (13 = i)]
theorem kinds_given (i : Nat) : given 14 (fun _ => true) (fun j => V.bl (decide (V.int (j : Nat) = V.int (i : Nat)))) = (kinds i).map V.bl := by
  have e : ∀ j : Nat, decide (V.int (j : Nat) = V.int (i : Nat)) = decide (j = i) := fun j => by
    by_cases h : j = i
    · rw [decide_eq_true h, decide_eq_true (by rw [h])]
    · rw [decide_eq_false h, decide_eq_false fun z => h (by injection z with z; omega)]
  simp only [e]
  rfl
/-- which of the fourteen it is -/
def spKinds (C : Nat → Addr) : Sp := fun vs H Q _ => ∃ (a : Addr) (i : Nat), vs = [.ref a] ∧ i < 14 ∧ SomeErr (C i) a H ∧ RetL ((kinds i).map V.bl) H Q
abbrev s_law_kinds : Stmt := topS 24
theorem sc_law_kinds : FnScope ["_law_error", "_law_found"] ["_law_error"] (defScope s_law_kinds) := ⟨rfl, rfl, rfl, by decide +kernel, rfl, by decide +kernel, by decide +kernel⟩
theorem ok_law_kinds {f : Addr} {fd : FuncData} (F : Df K "_law_kinds" "_law_kinds" s_law_kinds [] f fd) (T : T3 K mg C fI fdI B) :
    FnOk P w K mg base CX0 1 f fd ["_law_error"] (spKinds C) := by
  refine F.go sc_law_kinds (fun vs H Q E h => ?_) (fun cdv A outer s H vs Q E hr h => ?_)
  · obtain ⟨_, _, rfl, _⟩ := h
    rfl
  · obtain ⟨a, i, rfl, hi, some, q⟩ := h
    have J : ∀ {σ : L2.St} {H' : Hp}, σ[0]? = .some (.some (V.ref a)) → Ex H H' → ∀ j, j < 14 → Ev (tCB (rIsErr K) (tCons (tVar 0) (tCons (tC (.ref (C j))) tNil))) σ H' (.bl (decide (j = i))) := fun hσ e j hj =>
      ev_isErr (c := .ref (C j)) (cv := .ref (C j)) (T.k i hi) (some.ex e) (fun _ r => r) (T.kit i j hi hj) (ev_var hσ) ev_c
    refine ⟨_, pss_cons (ps_set (i := 1) sc_law_kinds.nd rfl (.inl rfl) (pe_lst (pa_cons (pe_callB call_isErr (by rfl) T.isi (by decide +kernel) (pa_cons (pv 0) (pa_cons (pe_glob (by rfl) (T.mC 0 (by decide)) (show L2.RelV (.ref (C 0)) (.ref (C 0)) from rfl)) pa_nil))) (pa_cons (pe_callB call_isErr (by rfl) T.isi (by decide +kernel) (pa_cons (pv 0) (pa_cons (pe_glob (by rfl) (T.mC 1 (by decide)) (show L2.RelV (.ref (C 1)) (.ref (C 1)) from rfl)) pa_nil))) pa_nil))))
      (pss_cons (ps_set (i := 1) sc_law_kinds.nd rfl (.inl rfl) (pe_op op_cat (pv 1) (pe_lst (pa_cons (pe_callB call_isErr (by rfl) T.isi (by decide +kernel) (pa_cons (pv 0) (pa_cons (pe_glob (by rfl) (T.mC 2 (by decide)) (show L2.RelV (.ref (C 2)) (.ref (C 2)) from rfl)) pa_nil))) (pa_cons (pe_callB call_isErr (by rfl) T.isi (by decide +kernel) (pa_cons (pv 0) (pa_cons (pe_glob (by rfl) (T.mC 3 (by decide)) (show L2.RelV (.ref (C 3)) (.ref (C 3)) from rfl)) pa_nil))) (pa_cons (pe_callB call_isErr (by rfl) T.isi (by decide +kernel) (pa_cons (pv 0) (pa_cons (pe_glob (by rfl) (T.mC 4 (by decide)) (show L2.RelV (.ref (C 4)) (.ref (C 4)) from rfl)) pa_nil))) pa_nil))))))
      (pss_cons (ps_set (i := 1) sc_law_kinds.nd rfl (.inl rfl) (pe_op op_cat (pv 1) (pe_lst (pa_cons (pe_callB call_isErr (by rfl) T.isi (by decide +kernel) (pa_cons (pv 0) (pa_cons (pe_glob (by rfl) (T.mC 5 (by decide)) (show L2.RelV (.ref (C 5)) (.ref (C 5)) from rfl)) pa_nil))) (pa_cons (pe_callB call_isErr (by rfl) T.isi (by decide +kernel) (pa_cons (pv 0) (pa_cons (pe_glob (by rfl) (T.mC 6 (by decide)) (show L2.RelV (.ref (C 6)) (.ref (C 6)) from rfl)) pa_nil))) (pa_cons (pe_callB call_isErr (by rfl) T.isi (by decide +kernel) (pa_cons (pv 0) (pa_cons (pe_glob (by rfl) (T.mC 7 (by decide)) (show L2.RelV (.ref (C 7)) (.ref (C 7)) from rfl)) pa_nil))) pa_nil))))))
      (pss_cons (ps_set (i := 1) sc_law_kinds.nd rfl (.inl rfl) (pe_op op_cat (pv 1) (pe_lst (pa_cons (pe_callB call_isErr (by rfl) T.isi (by decide +kernel) (pa_cons (pv 0) (pa_cons (pe_glob (by rfl) (T.mC 8 (by decide)) (show L2.RelV (.ref (C 8)) (.ref (C 8)) from rfl)) pa_nil))) (pa_cons (pe_callB call_isErr (by rfl) T.isi (by decide +kernel) (pa_cons (pv 0) (pa_cons (pe_glob (by rfl) (T.mC 9 (by decide)) (show L2.RelV (.ref (C 9)) (.ref (C 9)) from rfl)) pa_nil))) (pa_cons (pe_callB call_isErr (by rfl) T.isi (by decide +kernel) (pa_cons (pv 0) (pa_cons (pe_glob (by rfl) (T.mC 10 (by decide)) (show L2.RelV (.ref (C 10)) (.ref (C 10)) from rfl)) pa_nil))) pa_nil))))))
      (pss_cons (ps_expr (pe_bm PySem.F.plainAttrs_list PySem.F.slot_list_append PySem.F.type_list_append mt_append (pv 1) (pa_cons (pe_callB call_isErr (by rfl) T.isi (by decide +kernel) (pa_cons (pv 0) (pa_cons (pe_glob (by rfl) (T.mC 11 (by decide)) (show L2.RelV (.ref (C 11)) (.ref (C 11)) from rfl)) pa_nil))) pa_nil)))
      (pss_one (ps_ret (pe_op op_cat (pv 1) (pe_lst (pa_cons (pe_callB call_isErr (by rfl) T.isi (by decide +kernel) (pa_cons (pv 0) (pa_cons (pe_glob (by rfl) (T.mC 12 (by decide)) (show L2.RelV (.ref (C 12)) (.ref (C 12)) from rfl)) pa_nil))) (pa_cons (pe_callB call_isErr (by rfl) T.isi (by decide +kernel) (pa_cons (pv 0) (pa_cons (pe_glob (by rfl) (T.mC 13 (by decide)) (show L2.RelV (.ref (C 13)) (.ref (C 13)) from rfl)) pa_nil))) pa_nil)))))))))), ?_⟩
    refine q_asgL (el_lst (ea_cons (J rfl (Ex.refl H) 0 (by decide)) (ea_cons (J rfl (Ex.refl H) 1 (by decide)) ea_nil)) (by exact Nat.le_of_ble_eq_true rfl)) fun p1 H1 n1 e1 h1 => ?_
    refine q_asgL (el_cat h1 (ev_var rfl) (el_lst (ea_cons (J rfl e1 2 (by decide)) (ea_cons (J rfl e1 3 (by decide)) (ea_cons (J rfl e1 4 (by decide)) ea_nil))) (by exact Nat.le_of_ble_eq_true rfl)) (by exact Nat.le_of_ble_eq_true rfl)) fun p2 H2 n2 e2 h2 => ?_
    have x2 := e1.trans e2
    refine q_asgL (el_cat h2 (ev_var rfl) (el_lst (ea_cons (J rfl x2 5 (by decide)) (ea_cons (J rfl x2 6 (by decide)) (ea_cons (J rfl x2 7 (by decide)) ea_nil))) (by exact Nat.le_of_ble_eq_true rfl)) (by exact Nat.le_of_ble_eq_true rfl)) fun p3 H3 n3 e3 h3 => ?_
    have x3 := x2.trans e3
    refine q_asgL (el_cat h3 (ev_var rfl) (el_lst (ea_cons (J rfl x3 8 (by decide)) (ea_cons (J rfl x3 9 (by decide)) (ea_cons (J rfl x3 10 (by decide)) ea_nil))) (by exact Nat.le_of_ble_eq_true rfl)) (by exact Nat.le_of_ble_eq_true rfl)) fun p4 H4 n4 e4 h4 => ?_
    have x4 := x3.trans e4
    have f4 : H p4 = none := fresh_back x3 n4
    refine q_app h4 (ev_var rfl) (J rfl x4 11 (by decide)) (by exact Nat.le_of_ble_eq_true rfl) fun H5 e5 => ?_
    have x5 : ∀ u, Ex H (upd H5 p4 u) := fun u => Ex.mut (x4.trans e5) f4
    exact s_retL (el_cat upd_same (ev_var rfl) (el_lst (ea_cons (J rfl (x5 _) 12 (by decide)) (ea_cons (J rfl (x5 _) 13 (by decide)) ea_nil)) (by exact Nat.le_of_ble_eq_true rfl)) (by exact Nat.le_of_ble_eq_true rfl)) fun p H' n' e' h' => q p H' (fresh_back (x5 _) n') ((x5 _).trans e') h'
end
end K03

set_option maxHeartbeats 4000000
namespace K03
open PySem PySem.Spec PyProof.Rows L2 AP Evl
section
variable {P : Program} {w : World} {K : PySem.W.Frag} {mg : Str → Option Value} {base : Heap} {C fI : Nat → Addr} {fdI : Nat → FuncData} {B : Addr}
/-! ### a row of errors -/
/-- the row holds the twelve errors with this value -/
def spRow (K : PySem.W.Frag) (C : Nat → Addr) : Sp := fun vs H Q _ => ∃ (l : Addr) (v : V) (es : List V), vs = [.ref l, v] ∧ SqL K H l es ∧ Alls H (errs C v) es ∧ Fine K v H ∧ RetV (.bl true) H Q
abbrev s_row : Stmt := topS 25
abbrev nRow : List Str := ["_law_errors", "_law_value", "_law_at", "_law_error", "_law_place"]
theorem sc_row : FnScope nRow ["_law_errors", "_law_value"] (defScope s_row) := ⟨rfl, rfl, rfl, by decide +kernel, rfl, by decide +kernel, by decide +kernel⟩
theorem errs_get {C : Nat → Addr} {v : V} {i : Nat} {P : VP} (h : (errs C v)[i]? = some P) : i < 12 ∧ P = IsErr (C i) v := by
  match i, h with
  | 0, h => cases h; exact ⟨by decide, rfl⟩
  | 1, h => cases h; exact ⟨by decide, rfl⟩
  | 2, h => cases h; exact ⟨by decide, rfl⟩
  | 3, h => cases h; exact ⟨by decide, rfl⟩
  | 4, h => cases h; exact ⟨by decide, rfl⟩
  | 5, h => cases h; exact ⟨by decide, rfl⟩
  | 6, h => cases h; exact ⟨by decide, rfl⟩
  | 7, h => cases h; exact ⟨by decide, rfl⟩
  | 8, h => cases h; exact ⟨by decide, rfl⟩
  | 9, h => cases h; exact ⟨by decide, rfl⟩
  | 10, h => cases h; exact ⟨by decide, rfl⟩
  | 11, h => cases h; exact ⟨by decide, rfl⟩
  | i + 12, h => cases h
theorem dp_bools {H : Hp} : ∀ bs : List Bool, DpAll K H (bs.map V.bl) (bs.map PyData.bool)
  | [] => .nil
  | b :: bs => .cons (.bl b) (dp_bools bs)
theorem bools_shaped (bs : List Bool) : SeqAt.shaped (.list (bs.map PyData.bool)) = true := by
  have h : ∀ bs : List Bool, PyData.canLayAll0 (bs.map PyData.bool) = true ∧ PyData.depthAll (bs.map PyData.bool) = 0 := by
    intro bs
    induction bs with
    | nil => exact ⟨rfl, rfl⟩
    | cons b bs ih => exact ⟨by simp [PyData.canLayAll0, PyData.canLay0, ih.1], by simp [PyData.depthAll, PyData.depth, ih.2]⟩
  obtain ⟨h1, h2⟩ := h bs
  simp [SeqAt.shaped, PyData.canLay0, PyData.depth, h1, h2]
/-- two lists of the same truth values -/
theorem rv_neB {H : Hp} {p q : Addr} {bs : List Bool} (hp : H p = some (.lst (bs.map V.bl))) (hq : H q = some (.lst (bs.map V.bl))) : RV (rNeD K) (.ref p) (.ref q) H (.bl false) := fun H1 e Q k => by
  refine ⟨.list (bs.map PyData.bool), .list (bs.map PyData.bool), .lst (.inl (.inl (e _ _ hp))) (dp_bools bs), .lst (.inl (.inl (e _ _ hq))) (dp_bools bs), bools_shaped bs, bools_shaped bs, ?_⟩
  rw [SeqAt.eqv_refl _ (SeqAt.canLay_of_shaped (bools_shaped bs))]
  exact k H1 (Ex.refl H1)
theorem ok_row {f fk : Addr} {fd fdk : FuncData} (F : Df K "_law_row_right" "_law_row_right" s_row [] f fd) (T : T3 K mg C fI fdI B)
    (FK : Df K "_law_kinds" "_law_kinds" s_law_kinds [] fk fdk) (mK : mg "_law_kinds" = some (.ref fk)) (bK : Binds K fdk ["_law_error"] []) (mR : mg "range" = none) :
    FnG P w K mg base CX0 2 f fd ["_law_errors", "_law_value"] (spRow K C) := by
  have GK : FnOk P w K mg base CX0 1 fk fdk ["_law_error"] (spKinds C) := ok_law_kinds FK T
  refine F.goG sc_row (fun vs H Q E h => ?_) (fun cdv A outer s H vs Q E ng hr h => ?_)
  · obtain ⟨_, _, _, rfl, _⟩ := h
    rfl
  · obtain ⟨l, v, es, rfl, hl, he, fine, q⟩ := h
    refine ⟨_, pss_cons (ps_for PassesOwn.never rfl (pi_enum (by rfl) T.enum (pa_cons (pv 0) pa_nil)) (pg_tup rfl (pgs_cons (pg_name (i := 2) sc_row.nd rfl (.inr rfl)) (pgs_cons (pg_name (i := 3) sc_row.nd rfl (.inl rfl)) pgs_nil)))
      (pss_cons (ps_if (PW.pt (pw_or (pt_not (pt_val (pe_callB call_isErr (by rfl) T.isi (by decide +kernel) (pa_cons (pv 3) (pa_cons (pe_glob (by rfl) T.mB (show L2.RelV (.ref B) (.ref B) from rfl)) pa_nil)))))
          (pw_or1 (pt_not (pt_val (pe_callB call_isErr (by rfl) T.isi (by decide +kernel) (pa_cons (pv 3) (pa_cons (pe_bltn (by rfl) T.ve (by decide +kernel) (show L2.RelV (.ty "ValueError") (.type "ValueError") from rfl)) pa_nil)))))))) (pss_one (ps_ret pe_bl)) pss_nil)
      (pss_cons (ps_if (pt_cmpR (op_neD hr.units) (pe_call GK hr (by rfl) mK FK.kp bK .nil pass0 (pa_cons (pv 3) pa_nil))
          (pe_lc (own := [("_law_place", 4)]) (g := gName 4) (tt := tYes) (by rfl) sc_row.nd (pi_range1 (by rfl) mR (pa_cons pe_int pa_nil)) (blkOk_by (own := [("_law_place", 4)]) (N := nRow) (sc := defScope s_row) (by decide +kernel))
            (fun _ _ _ _ _ => pg_name (i := 4) sc_row.nd rfl (Or.inl rfl)) (fun _ _ _ _ _ => pts_nil) (fun _ _ _ _ _ => pe_cmpR op_eq (pv 4) (pv 2) (nomark _))) (nomark _)) (pss_one (ps_ret pe_bl)) pss_nil)
      (pss_one (ps_if (PW.pt (pw_or (pt_not (pt_cmpR (OpR.or (op_eqD hr.units) (op_eq_dict hr.units0)) (pe_errF (pv 3)) (pv 1) (nomark _)))
          (pw_or1 (pt_cmpR op_ne (pe_callB (L2.CallR.or (call_reprD ng hr.units) (call_reprO ng hr.units)) (by rfl) T.repr (by decide +kernel) (pa_cons (pe_errF (pv 3)) pa_nil))
            (pe_callB (L2.CallR.or (call_reprD ng hr.units) (call_reprO ng hr.units)) (by rfl) T.repr (by decide +kernel) (pa_cons (pv 1) pa_nil)) (nomark _))))) (pss_one (ps_ret pe_bl)) pss_nil)))))
      (pss_one (ps_ret pe_bl)), ?_⟩
    refine ⟨_, rfl, l, es, rfl, hl, for_enumL (K := K) (a := l) (xs := es) (fun i σ' H' => ∃ x2 x3, σ' = [some (.ref l), some v, x2, x3, none] ∧ Ex H H') ⟨none, none, rfl, Ex.refl H⟩
      (fun i σ' H' p => ?_) (fun i x Tp σ' H' hx p nT => ?_) (fun σ' H' p => ?_)⟩
    · obtain ⟨_, _, _, e⟩ := p
      exact ex_l e hl
    · obtain ⟨x2, x3, rfl, e0⟩ := p
      obtain ⟨Pi, hP, hI⟩ := he.get hx
      obtain ⟨hi, rfl⟩ := errs_get hP
      obtain ⟨a, d, rfl, ha, hd⟩ := hI
      have e1 : Ex H (upd H' Tp (.tup [.int (i : Nat), .ref a])) := e0.trans (Ex.new nT)
      refine ⟨Tp, [.int (i : Nat), .ref a], rfl, .inl (.inl upd_same), rfl, .int (i : Nat), [.ref a], rfl, .ref a, [], rfl, rfl, ?_⟩
      have sm : ∀ {H2 : Hp}, Ex H H2 → SomeErr (C i) a H2 := fun e => .inl ⟨d, _, e _ _ ha, e _ _ hd⟩
      have hi14 : i < 14 := by omega
      -- its class lies under both
      refine q_when (b := false) (et_is (et_or (et_not (et_B (ev_isErr (c := .ref B) (cv := .ref B) (T.k i hi14) (sm e1) (fun _ r => r) (T.kitB i hi14) (ev_var rfl) ev_c)))
        fun _ => et_not (et_B (ev_isErr (c := .ty "ValueError") (cv := .type "ValueError") (T.k i hi14) (sm e1) (fun _ r => r) (T.kitV i hi14) (ev_var rfl) ev_c))) rfl) (fun z => nomatch z) fun _ H2 e2 => ?_
      have e2' := e1.trans e2
      -- just one of the fourteen
      refine q_when (b := false) (et_test (ev_opLL (xs := (kinds i).map V.bl) (ys := (kinds i).map V.bl)
        (el_call (ea_cons (ev_var rfl) ea_nil) fun H3 e3 Q' q' E' => ⟨a, i, rfl, hi14, sm (e2'.trans e3), fun p H4 np e4 h4 => q' p H4 np e4 h4⟩)
        (by
          have z := el_lcR1 (σ := [some (.ref l), some v, some (.int (i : Nat)), some (.ref a), none]) (H := H2) (ta := tCons (tC (.int 14)) tNil) (t := tYes) (te := tOp rEq (tVar 4) (tVar 2)) (j := 4) (vs := [4]) (n := 14)
            (fun _ => true) (fun j => V.bl (decide (V.int (j : Nat) = V.int (i : Nat)))) (ea_cons ev_c ea_nil) ⟨by decide, by decide⟩ (fun _ => rfl)
            (fun j H3 _ _ H4 _ Q' q' => q' H4 (Ex.refl H4)) (fun j H3 _ _ _ => ev_op (ev_var rfl) (ev_var rfl) (rv_eq rfl))
          rw [show ((14 : Int).toNat) = 14 from rfl, kinds_given] at z
          exact z)
        fun p' q' H3 hp hq _ => rv_neB hp hq)) (fun z => nomatch z) fun _ H4 e4 => ?_
      have e4' := e2'.trans e4
      -- its field holds the very value
      have fld : ∀ {H5 : Hp}, Ex H H5 → Ev (tErrF K "value" (tVar 3)) [some (.ref l), some v, some (.int (i : Nat)), some (.ref a), none] H5 v := fun e =>
        ev_errF (T.k i hi14) (T.dict i hi) (T.no i hi) (e _ _ ha) (e _ _ hd) (by simp [List.lookup]) (ev_var rfl)
      obtain ⟨t, ht⟩ := (fine.ex e4').shown
      have rp : RC (rRep K) [v] H4 (.str t) := fun H5 e5 Q' q' => ht H5 e5 Q' (q' H5 (Ex.refl H5))
      refine s_when (b := false) (et_is (et_or (et_not (et_test (ev_op (fld e4') (ev_var rfl) (fine.ex e4').same)))
        fun _ => et_test (ev_is (ev_op (ev_cb (ea_cons (fld e4') ea_nil) rp) (ev_cb (ea_cons (ev_var rfl) ea_nil) rp) (rv_ne rfl)) (by rw [decide_eq_true rfl] <;> rfl))) rfl) (fun z => nomatch z) fun _ H6 e6 => ?_
      exact ⟨_, _, rfl, e4'.trans e6⟩
    · obtain ⟨_, _, rfl, e⟩ := p
      exact q H' e

end
end K03

set_option maxHeartbeats 4000000
namespace K03
open PySem PySem.Spec PyProof.Rows L2 AP Evl
section
variable {P : Program} {w : World} {K : PySem.W.Frag} {mg : Str → Option Value} {base : Heap} {C fI : Nat → Addr} {fdI : Nat → FuncData} {B : Addr}
/-! ### the law -/
theorem ev_row {σ : L2.St} {H : Hp} {te tv : TE} {v : V} {E : XK} (hm : Elp te σ H (errs C v)) (hv : Ev tv σ H v) (fine : Fine K v H) :
    Ev (tCall (spRow K C) [] E (tCons te (tCons tv tNil))) σ H (.bl true) := fun H1 e Q q =>
  hm H1 e _ fun p xs H2 np e2 hp hs => hv H2 (e.trans e2) _ fun H3 e3 =>
    ⟨p, v, xs, rfl, .inl (.inl (e3 _ _ hp)), hs.ex e3, fine.ex ((e.trans e2).trans e3), fun H4 e4 => q H4 ((e2.trans e3).trans e4)⟩
theorem elp_made {σ : L2.St} {H : Hp} {tv : TE} {v : V} {E : XK} (hv : Ev tv σ H v) : Elp (tCall (spMade C) [] E (tCons tv tNil)) σ H (errs C v) := fun H1 e Q q =>
  hv H1 e _ fun H2 e2 => ⟨v, rfl, fun p xs H3 np e3 hp hs => q p xs H3 (fresh_back e2 np) (e2.trans e3) hp hs⟩
theorem elp_empty {σ : L2.St} {H : Hp} {E : XK} : Elp (tCall (spEmpty C) [] E tNil) σ H (errs C .non) := fun H1 e Q q =>
  ⟨rfl, fun p xs H2 np e2 hp hs => q p xs H2 np e2 hp hs⟩
theorem err_upd {Ci o : Addr} {v x : V} {H : Hp} {xs : List V} {u : HO} (ho : H o = some (.lst xs)) (h : IsErr Ci v x H) : IsErr Ci v x (upd H o u) := by
  obtain ⟨a, d, e, h1, h2⟩ := h
  have ne : ∀ {b : Addr} {φ : Heap → Prop}, H b = some (.ext φ) → b ≠ o := fun {b φ} hb z => by
    rw [z, ho] at hb
    cases hb
  exact ⟨a, d, e, (upd_ne (ne h1)).trans h1, (upd_ne (ne h2)).trans h2⟩
theorem dp_intsA {H : Hp} : ∀ ns : List Int, DpAll K H (ns.map V.int) (ns.map PyData.int)
  | [] => .nil
  | n :: ns => .cons (.int n) (dp_intsA ns)
theorem ints_shaped (ns : List Int) : SeqAt.shaped (.list (ns.map PyData.int)) = true := by
  have h : ∀ ns : List Int, PyData.canLayAll0 (ns.map PyData.int) = true ∧ PyData.depthAll (ns.map PyData.int) = 0 := by
    intro ns
    induction ns with
    | nil => exact ⟨rfl, rfl⟩
    | cons b ns ih => exact ⟨by simp [PyData.canLayAll0, PyData.canLay0, ih.1], by simp [PyData.depthAll, PyData.depth, ih.2]⟩
  obtain ⟨h1, h2⟩ := h ns
  simp [SeqAt.shaped, PyData.canLay0, PyData.depth, h1, h2]
theorem rv_neI {H : Hp} {p q : Addr} {ns : List Int} (hp : H p = some (.lst (ns.map V.int))) (hq : H q = some (.lst (ns.map V.int))) : RV (rNeD K) (.ref p) (.ref q) H (.bl false) := fun H1 e Q k => by
  refine ⟨.list (ns.map PyData.int), .list (ns.map PyData.int), .lst (.inl (.inl (e _ _ hp))) (dp_intsA ns), .lst (.inl (.inl (e _ _ hq))) (dp_intsA ns), ints_shaped ns, ints_shaped ns, ?_⟩
  rw [SeqAt.eqv_refl _ (SeqAt.canLay_of_shaped (ints_shaped ns))]
  exact k H1 (Ex.refl H1)
theorem small30 {n : Int} (h0 : 0 ≤ n) (h : n < 10 ^ 30) : n.natAbs.log2 < 1920 := by
  have : n.natAbs < 2 ^ 100 := by
    have e : (10 : Int) ^ 30 < 2 ^ 100 := by decide +kernel
    omega
  exact Nat.lt_of_lt_of_le (PySem.Flt.log2_lt_of (by decide) this) (by decide)
theorem text30 {n : Int} (h0 : 0 ≤ n) (h : n < 10 ^ 30) : (Str.ofString (toString n)).length ≤ 31 := by
  have e := int_text_length_le10 (a := n) (k := 30) (by decide) (by omega)
  rw [PySem.ofString_length]
  exact e
/-- the six values -/
theorem fine_non {H : Hp} : Fine K .non H := .inl ⟨.none, .non, rfl, rfl, rfl, by decide, by decide +kernel⟩
theorem fine_true {H : Hp} : Fine K (.bl true) H := .inl ⟨.bool true, .bl true, rfl, rfl, rfl, by decide, by decide +kernel⟩
theorem fine_int {H : Hp} {n : Int} (h0 : 0 ≤ n) (h : n < 10 ^ 30) : Fine K (.int n) H :=
  .inl ⟨.int n, .int n, rfl, by simp [PyData.showable, small30 h0 h], rfl, by simp [PyData.depth], by
    have := text30 h0 h
    exact Nat.le_trans this (by decide)⟩
theorem fine_str {H : Hp} {t : Str} (h : (reprText t).length ≤ sizeLine) (h' : SeqAt.shaped (.str t) = true) : Fine K (.str t) H := .inl ⟨.str t, .str t, h', rfl, rfl, by simp [PyData.depth], h⟩
theorem fine_tup {H : Hp} {n : Int} {tp lp : Addr} (h0 : 0 ≤ n) (h : n < 10 ^ 30) (ht : H tp = some (.tup [.str "x", .ref lp])) (hl : H lp = some (.lst [.int n])) : Fine K (.ref tp) H := by
  refine .inl ⟨.tuple [.str "x", .list [.int n]], .tup (.inl (.inl ht)) (.cons (.str _) (.cons (.lst (.inl (.inl hl)) (.cons (.int n) .nil)) .nil)), ?_, ?_, rfl, by simp [PyData.depth, PyData.depthAll], ?_⟩
  · have x : PyData.canLay0 (.str ("x" : Str)) = true := by decide +kernel
    have x' : PyData.strOk ("x" : Str) = true := by simpa [PyData.canLay0] using x
    simp [SeqAt.shaped, PyData.canLay0, PyData.canLayAll0, PyData.depth, PyData.depthAll]
    exact x'
  · simp [PyData.showable, PyData.showableAll, small30 h0 h]
  · have := text30 h0 h
    have h1 := listText_len_le [Str.ofString (toString n)]
    have h2 := tupleText_len_le [reprText "x", listText [Str.ofString (toString n)]]
    have h3 : (reprText ("x" : Str)).length = 3 := by decide +kernel
    show (tupleText [reprText "x", listText [Str.ofString (toString n)]]).length ≤ sizeLine
    simp only [List.map_cons, List.map_nil, List.sum_cons, List.sum_nil, List.length_cons, List.length_nil] at h1 h2
    rw [sizeLine_eq]
    omega
theorem fine_dct {H : Hp} {a : Addr} (h : H a = some (.dK [(Sum.inr "a", .int 1)])) : Fine K (.ref a) H := .inr ⟨a, "a", 1, rfl, h, by decide +kernel, by decide +kernel⟩
def spLaw (K : PySem.W.Frag) : Sp := fun vs H Q _ => ∃ (a : Addr) (ns : List Int), vs = [.ref a] ∧ SqL K H a (ns.map V.int) ∧ ∀ H', Q (.bl true) H'
abbrev s_law : Stmt := topS 26
abbrev nLaw : List Str := ["_law_script", "_law_generator_here", "_law_number", "_law_value", "_law_odd", "_law_grown", "_law_error", "_law_at", "_law_place"]
theorem sc_law : FnScope nLaw ["_law_script"] (defScope s_law) := ⟨rfl, rfl, rfl, by decide +kernel, rfl, by decide +kernel, by decide +kernel⟩
theorem pow_e : PowOk 10 30 := ⟨by decide, by decide +kernel⟩
/-- the defs that the law calls -/
structure D3 (P : Program) (w : World) (K : PySem.W.Frag) (mg : Str → Option Value) (base : Heap) (C : Nat → Addr) (fG fR fM fN fE fK fW : Addr) (dG dR dM dN dE dK dW : FuncData) : Prop where
  G : FnOk P w K mg base CX0 2 fG dG ["_law_script", "_law_index"] (spGenerator K)
  R : FnOk P w K mg base CX0 2 fR dR ["_law_generator_here", "_law_bound"] spRandom
  M : FnOk P w K mg base CX0 3 fM dM ["_law_value"] (spMade C)
  N : FnOk P w K mg base CX0 3 fN dN ["_law_value"] (spMade C)
  E : FnOk P w K mg base CX0 3 fE dE [] (spEmpty C)
  Kn : FnOk P w K mg base CX0 1 fK dK ["_law_error"] (spKinds C)
  W : FnG P w K mg base CX0 2 fW dW ["_law_errors", "_law_value"] (spRow K C)
  bG : Binds K dG ["_law_script", "_law_index"] []
  bR : Binds K dR ["_law_generator_here", "_law_bound"] []
  bM : Binds K dM ["_law_value"] []
  bN : Binds K dN ["_law_value"] []
  bE : Binds K dE [] []
  bK : Binds K dK ["_law_error"] []
  bW : Binds K dW ["_law_errors", "_law_value"] []
  mG : mg "_law_generator" = some (.ref fG)
  mR : mg "_law_random" = some (.ref fR)
  mM : mg "_law_made" = some (.ref fM)
  mN : mg "_law_named" = some (.ref fN)
  mE : mg "_law_empty" = some (.ref fE)
  mK : mg "_law_kinds" = some (.ref fK)
  mW : mg "_law_row_right" = some (.ref fW)
  kG : PySem.W.keepIn K (.ref fG) = true
  kR : PySem.W.keepIn K (.ref fR) = true
  kM : PySem.W.keepIn K (.ref fM) = true
  kN : PySem.W.keepIn K (.ref fN) = true
  kE : PySem.W.keepIn K (.ref fE) = true
  kK : PySem.W.keepIn K (.ref fK) = true
  kW : PySem.W.keepIn K (.ref fW) = true

theorem ok_law {f fG fR fM fN fE fK fW : Addr} {fd dG dR dM dN dE dK dW : FuncData} (F : Df K "law" "law" s_law [] f fd) (T : T3 K mg C fI fdI B)
    (Z : D3 P w K mg base C fG fR fM fN fE fK fW dG dR dM dN dE dK dW) : FnG P w K mg base CX0 4 f fd ["_law_script"] (spLaw K) := by
  refine F.goG sc_law (fun vs H Q E h => ?_) (fun cdv A outer s H vs Q E ng hr h => ?_)
  · obtain ⟨_, _, rfl, _⟩ := h
    rfl
  · obtain ⟨sa, ns, rfl, hS, q⟩ := h
    have hr2 : Room 2 _ := hr.mono (by decide)
    have hr1 : Room 1 _ := hr.mono (by decide)
    refine ⟨_, pss_cons (ps_set (i := 1) sc_law.nd rfl (.inl rfl) (pe_call Z.G hr2 (by rfl) Z.mG Z.kG Z.bG .nil pass0 (pa_cons (pv 0) (pa_cons pe_int pa_nil))))
      (pss_cons (ps_set (i := 2) sc_law.nd rfl (.inr rfl) (pe_call Z.R hr2 (by rfl) Z.mR Z.kR Z.bR .nil pass0 (pa_cons (pv 1) (pa_cons (pe_op op_powW pe_int pe_int) pa_nil))))
      (pss_cons (ps_for PassesOwn.never rfl (pi_list (pe_lst (pa_cons pe_non (pa_cons (pv 2) (pa_cons (pe_op op_mul_ab pe_str (pe_call Z.R hr2 (by rfl) Z.mR Z.kR Z.bR .nil pass0 (pa_cons (pv 1) (pa_cons pe_int pa_nil))))
            (pa_cons (pe_tup (pa_cons pe_str (pa_cons (pe_lst (pa_cons (pv 2) pa_nil)) pa_nil))) (pa_cons (pe_disp (pps_cons pe_str pe_int pps_nil) (by rfl) (by rfl) (fun z => by cases z) (by decide)) (pa_cons pe_bl pa_nil))))))))
          (pg_name (i := 3) sc_law.nd rfl (.inl rfl))
        (pss_one (ps_if (PW.pt (pw_or (pt_not (pt_val (pe_callG Z.W ng hr2 (by rfl) Z.mW Z.kW Z.bW .nil pass0 (pa_cons (pe_call Z.M hr (by rfl) Z.mM Z.kM Z.bM .nil pass0 (pa_cons (pv 3) pa_nil)) (pa_cons (pv 3) pa_nil)))))
          (pw_or1 (pt_not (pt_val (pe_callG Z.W ng hr2 (by rfl) Z.mW Z.kW Z.bW .nil pass0 (pa_cons (pe_call Z.N hr (by rfl) Z.mN Z.kN Z.bN .nil pass0 (pa_cons (pv 3) pa_nil)) (pa_cons (pv 3) pa_nil)))))))) (pss_one (ps_ret pe_bl)) pss_nil)))
      (pss_cons (ps_if (pt_not (pt_val (pe_callG Z.W ng hr2 (by rfl) Z.mW Z.kW Z.bW .nil pass0 (pa_cons (pe_call0 Z.E hr (by rfl) Z.mE Z.kE Z.bE .nil pass0) (pa_cons pe_non pa_nil))))) (pss_one (ps_ret pe_bl)) pss_nil)
      (pss_cons (ps_set (i := 4) sc_law.nd rfl (.inl rfl) (pe_lst (pa_cons (pv 2) pa_nil)))
      (pss_cons (ps_set (i := 5) sc_law.nd rfl (.inl rfl) (pe_call Z.M hr (by rfl) Z.mM Z.kM Z.bM .nil pass0 (pa_cons (pv 4) pa_nil)))
      (pss_cons (ps_expr (pe_bm PySem.F.plainAttrs_list PySem.F.slot_list_append PySem.F.type_list_append mt_append (pv 4) (pa_cons pe_int pa_nil)))
      (pss_cons (ps_if (pt_cmpR (op_neD hr.units) (pe_lc (own := [("_law_error", 6)]) (g := gName 6) (tt := tTest (tOp (rNeD K) (tErrF K "value" (tVar 6)) (tLst (tCons (tVar 2) (tCons (tC (.int 1)) tNil))))) (by rfl) sc_law.nd (pi_list (pv 5))
            (blkOk_by (own := [("_law_error", 6)]) (N := nLaw) (sc := defScope s_law) (by decide +kernel)) (fun _ _ _ _ _ => pg_name (i := 6) sc_law.nd rfl (Or.inl rfl))
            (fun _ _ _ _ _ => pts_one (pt_cmpR (op_neD hr.units) (pe_errF (pv 6)) (pe_lst (pa_cons (pv 2) (pa_cons pe_int pa_nil))) (nomark _))) (fun _ _ _ _ _ => pv 6)) (pe_lst pa_nil) (nomark _)) (pss_one (ps_ret pe_bl)) pss_nil)
      (pss_cons (ps_for PassesOwn.never rfl (pi_enum (by rfl) T.enum (pa_cons (pe_lst (pa_cons (pe_exc0 PySem.F.excBase_ValueError (T.exc 12 (by decide) (by decide)) (T.mC 12 (by decide)) (T.keep 12 (by decide)) (by rfl))
            (pa_cons (pe_exc0 PySem.F.excBase_ValueError (T.exc 13 (by decide) (by decide)) (T.mC 13 (by decide)) (T.keep 13 (by decide)) (by rfl)) pa_nil))) pa_nil))
          (pg_tup rfl (pgs_cons (pg_name (i := 7) sc_law.nd rfl (.inr rfl)) (pgs_cons (pg_name (i := 6) sc_law.nd rfl (.inl rfl)) pgs_nil)))
        (pss_cons (ps_if (PW.pt (pw_or (pt_not (pt_val (pe_callB call_isErr (by rfl) T.isi (by decide +kernel) (pa_cons (pv 6) (pa_cons (pe_glob (by rfl) T.mB (show L2.RelV (.ref B) (.ref B) from rfl)) pa_nil)))))
            (pw_or1 (pt_not (pt_val (pe_callB call_isErr (by rfl) T.isi (by decide +kernel) (pa_cons (pv 6) (pa_cons (pe_bltn (by rfl) T.ve (by decide +kernel) (show L2.RelV (.ty "ValueError") (.type "ValueError") from rfl)) pa_nil)))))))) (pss_one (ps_ret pe_bl)) pss_nil)
        (pss_one (ps_if (pt_cmpR (op_neD hr.units) (pe_call Z.Kn hr1 (by rfl) Z.mK Z.kK Z.bK .nil pass0 (pa_cons (pv 6) pa_nil))
            (pe_lc (own := [("_law_place", 8)]) (g := gName 8) (tt := tYes) (by rfl) sc_law.nd (pi_range1 (by rfl) T.b.range (pa_cons pe_int pa_nil)) (blkOk_by (own := [("_law_place", 8)]) (N := nLaw) (sc := defScope s_law) (by decide +kernel))
              (fun _ _ _ _ _ => pg_name (i := 8) sc_law.nd rfl (Or.inl rfl)) (fun _ _ _ _ _ => pts_nil) (fun _ _ _ _ _ => pe_cmpR op_eq (pv 8) (pe_op op_add pe_int (pv 7)) (nomark _))) (nomark _)) (pss_one (ps_ret pe_bl)) pss_nil))))
      (pss_one (ps_ret pe_bl)))))))))), ?_⟩
    -- the generator, the number
    refine ⟨_, rfl, sa, ns, 0, rfl, hS, by decide, fun g H1 ng1 e1 ⟨x, y, z, hg, x0, ⟨y0, _⟩, z0, z1⟩ => ?_⟩
    refine ⟨_, rfl, _, _, rfl, rfl, pow_e, g, _, x, y, z, rfl, ⟨hg, x0, y0, z0, by omega⟩, by decide +kernel, by decide +kernel, fun n x' z' H2 n0 n1 ⟨hg2, x0', _, z0', z1'⟩ oth2 _ => ?_⟩
    have n1 : n < 10 ^ 30 := n1
    -- the six values
    refine ⟨_, rfl, _, rfl, g, 3, x', y, z', rfl, ⟨hg2, x0', y0, z0', by omega⟩, by decide, by decide +kernel, fun r x2 z2 H3 r0 r1 _ oth3 _ => ⟨r, rfl, rfl, r0, r1, fun t ht ht' => ⟨_, rfl, by show 1 ≤ sizeLine; decide, fun lp nlp =>
      ⟨by show 2 ≤ sizeLine; decide, fun tp ntp dp ndp => ⟨upd_same, [(Sum.inr "a", .int 1)], rfl, by decide, by show 6 ≤ sizeLine; decide, fun p np => ⟨p, rfl, ⟨_, SqL.of upd_same⟩, ?_⟩⟩⟩⟩⟩⟩
    generalize hH6 : upd (upd (upd (upd (upd H3 lp (.lst [.int n])) tp (.tup [.str "x", .ref lp])) dp (.dK [])) dp (.dK (mergeK [] [(Sum.inr "a", V.int 1)]))) p (.lst [.non, .int n, .str t, .ref tp, .ref dp, .bl true]) = H6
    have fines : ∀ v ∈ [V.non, .int n, .str t, .ref tp, .ref dp, .bl true], Fine K v H6 := by
      have d0 : dp ≠ tp := fun q => by rw [q, upd_same] at ndp; cases ndp
      have d1 : dp ≠ lp := fun q => by rw [q, upd_ne (fun q' => by rw [← q', upd_same] at ntp; cases ntp), upd_same] at ndp; cases ndp
      have t1 : tp ≠ lp := fun q => by rw [q, upd_same] at ntp; cases ntp
      have pd : p ≠ dp := fun q => by rw [q, upd_same] at np; cases np
      have pt : p ≠ tp := fun q => by rw [q, upd_ne d0.symm, upd_ne d0.symm, upd_same] at np; cases np
      have pl : p ≠ lp := fun q => by rw [q, upd_ne d1.symm, upd_ne d1.symm, upd_ne t1.symm, upd_same] at np; cases np
      have h1 : H6 tp = some (.tup [.str "x", .ref lp]) := by rw [← hH6, upd_ne pt.symm, upd_ne d0.symm, upd_ne d0.symm, upd_same]
      have h2 : H6 lp = some (.lst [.int n]) := by rw [← hH6, upd_ne pl.symm, upd_ne d1.symm, upd_ne d1.symm, upd_ne t1.symm, upd_same]
      have h3 : H6 dp = some (.dK [(Sum.inr "a", .int 1)]) := by rw [← hH6, upd_ne pd.symm, upd_same] <;> rfl
      intro v hv
      simp only [List.mem_cons, List.not_mem_nil, or_false] at hv
      rcases hv with rfl | rfl | rfl | rfl | rfl | rfl
      · exact fine_non
      · exact fine_int n0 n1
      · exact fine_str ht ht'
      · exact fine_tup n0 n1 h1 h2
      · exact fine_dct h3
      · exact fine_true
    have hp6 : H6 p = some (.lst [.non, .int n, .str t, .ref tp, .ref dp, .bl true]) := by rw [← hH6]; exact upd_same
    refine for_list (K := K) (a := p) (xs := [.non, .int n, .str t, .ref tp, .ref dp, .bl true]) (fun i σ' H' => ∃ v3, σ' = [some (.ref sa), some (.ref g), some (.int n), v3, none, none, none, none, none] ∧ Ex H6 H')
      ⟨none, rfl, Ex.refl H6⟩ (fun i σ' H' _ pr => ?_) (fun i v σ' H' hv pr => ?_) (fun σ' H' pr => ?_)
    · obtain ⟨_, _, e⟩ := pr
      exact SqL.of (e _ _ hp6)
    · obtain ⟨v3, rfl, e⟩ := pr
      have fv : Fine K v H' := (fines v (List.mem_of_getElem? hv)).ex e
      exact s_when (b := false) (et_is (et_or (et_not (et_B (ev_row (elp_made (ev_var rfl)) (ev_var rfl) fv)))
        fun _ => et_not (et_B (ev_row (elp_made (ev_var rfl)) (ev_var rfl) fv))) rfl) (fun z => nomatch z) fun _ H7 e7 => ⟨_, rfl, e.trans e7⟩
    · obtain ⟨v3, rfl, e6⟩ := pr
      -- nothing given
      refine q_when (b := false) (et_is (et_not (et_B (ev_row (elp_empty (E := E0)) ev_c fine_non))) rfl) (fun z => nomatch z) fun _ H7 e7 => ?_
      -- a list that grows
      refine q_asgL (el_lst (ea_cons (ev_var rfl) ea_nil) (by exact Nat.le_of_ble_eq_true rfl)) fun o H8 no e8 ho => ?_
      refine q_asgLp (elp_made (ev_var rfl)) fun gp es H9 ngp e9 hgp hes => ?_
      refine q_app (e9 _ _ ho) (ev_var rfl) ev_c (by exact Nat.le_of_ble_eq_true rfl) fun H10 e10 => ?_
      have ho' : (upd H10 o (.lst ([V.int n] ++ [V.int 1]))) o = some (.lst (([n, 1] : List Int).map V.int)) := upd_same
      have ne : gp ≠ o := fun z => by rw [z, ho] at ngp; cases ngp
      have hgp' : (upd H10 o (.lst ([V.int n] ++ [V.int 1]))) gp = some (.lst es) := (upd_ne ne).trans (e10 _ _ hgp)
      have old := e10 _ _ (e9 _ _ ho)
      refine q_when (b := false) (et_test (ev_opLL (xs := []) (ys := []) ?_ (el_lst ea_nil (by exact Nat.le_of_ble_eq_true rfl)) fun p q H hp hq _ => rv_neI (ns := []) hp hq)) (fun z => nomatch z) fun _ H11 e11 => ?_
      · have z := el_lcL (K := K) (σ := [some (.ref sa), some (.ref g), some (.int n), v3, some (.ref o), some (.ref gp), none, none, none]) (H := upd H10 o (.lst ([V.int n] ++ [V.int 1]))) (a := gp) (xs := es)
          (t := tTest (tOp (rNeD K) (tErrF K "value" (tVar 6)) (tLst (tCons (tVar 2) (tCons (tC (.int 1)) tNil))))) (te := tVar 6) (tl := tVar 5) (j := 6) (vs := [6])
          (fun _ => false) (fun _ => .non) (ev_var rfl) (SqL.of hgp') (by rw [hes.len]; exact Nat.le_of_ble_eq_true rfl) (fun _ => rfl) (fun i x H11 e11 hx => ?_) (fun i x H11 e11 hx z => nomatch z)
        · rw [show given es.length (fun _ => false) (fun _ => V.non) = [] by simp [given]] at z
          exact z
        · obtain ⟨Pi, hP, hI⟩ := (hes.ex e10).get hx
          obtain ⟨hi, rfl⟩ := errs_get hP
          obtain ⟨a, d, rfl, ha, hd⟩ := err_upd (u := .lst ([V.int n] ++ [V.int 1])) old hI
          exact et_test (ev_opL (ev_errF (T.k i (by omega)) (T.dict i hi) (T.no i hi) (e11 _ _ ha) (e11 _ _ hd) (by simp [List.lookup]) (ev_var rfl)) (el_lst (ea_cons (ev_var rfl) (ea_cons ev_c ea_nil)) (by exact Nat.le_of_ble_eq_true rfl))
            fun p H12 hp e12 => rv_neI (ns := [n, 1]) (e12 _ _ (e11 _ _ ho')) hp)
      -- the two without a field
      refine fun a1 f1 a2 f2 => ⟨by show 2 ≤ sizeLine; decide, fun p np => ⟨p, _, rfl, SqL.of upd_same, ?_⟩⟩
      have d12 : a1 ≠ a2 := fun z => by rw [← z, upd_same] at f2; cases f2
      have d1p : p ≠ a1 := fun z => by rw [z, upd_ne d12, upd_same] at np; cases np
      have d2p : p ≠ a2 := fun z => by rw [z, upd_same] at np; cases np
      generalize hH : upd (upd (upd H11 a1 (ExO (.ref (C 12)) a1)) a2 (ExO (.ref (C 13)) a2)) p (.lst [.ref a1, .ref a2]) = Hn
      have hp : Hn p = some (.lst [.ref a1, .ref a2]) := by rw [← hH]; exact upd_same
      have k1 : Hn a1 = some (ExO (.ref (C 12)) a1) := by rw [← hH, upd_ne d1p.symm, upd_ne d12, upd_same]
      have k2 : Hn a2 = some (ExO (.ref (C 13)) a2) := by rw [← hH, upd_ne d2p.symm, upd_same]
      refine for_enumL (K := K) (a := p) (xs := [.ref a1, .ref a2]) (fun i σ' H' => ∃ x6 x7, σ' = [some (.ref sa), some (.ref g), some (.int n), v3, some (.ref o), some (.ref gp), x6, x7, none] ∧ Ex Hn H') ⟨none, none, rfl, Ex.refl Hn⟩
        (fun i σ' H' pr => ?_) (fun i v Tp σ' H' hv pr nT => ?_) (fun σ' H' pr => ?_)
      · obtain ⟨_, _, _, e⟩ := pr
        exact SqL.of (e _ _ hp)
      · obtain ⟨x6, x7, rfl, e⟩ := pr
        obtain ⟨a, rfl, hi, some⟩ : ∃ a, v = .ref a ∧ i < 2 ∧ SomeErr (C (12 + i)) a Hn := by
          match i, hv with
          | 0, hv => cases hv; exact ⟨a1, rfl, by decide, .inr k1⟩
          | 1, hv => cases hv; exact ⟨a2, rfl, by decide, .inr k2⟩
          | i + 2, hv => cases hv
        have hi14 : 12 + i < 14 := by omega
        have e1 : Ex Hn (upd H' Tp (.tup [.int (i : Nat), .ref a])) := e.trans (Ex.new nT)
        refine ⟨Tp, [.int (i : Nat), .ref a], rfl, .inl (.inl upd_same), rfl, .int (i : Nat), [.ref a], rfl, .ref a, [], rfl, rfl, ?_⟩
        refine q_when (b := false) (et_is (et_or (et_not (et_B (ev_isErr (c := .ref B) (cv := .ref B) (T.k _ hi14) (some.ex e1) (fun _ r => r) (T.kitB _ hi14) (ev_var rfl) ev_c)))
          fun _ => et_not (et_B (ev_isErr (c := .ty "ValueError") (cv := .type "ValueError") (T.k _ hi14) (some.ex e1) (fun _ r => r) (T.kitV _ hi14) (ev_var rfl) ev_c))) rfl) (fun z => nomatch z) fun _ H2 e2 => ?_
        have e2' := e1.trans e2
        refine s_when (b := false) (et_test (ev_opLL (xs := (kinds (12 + i)).map V.bl) (ys := (kinds (12 + i)).map V.bl)
          (el_call (ea_cons (ev_var rfl) ea_nil) fun H3 e3 Q' q' E' => ⟨a, 12 + i, rfl, hi14, some.ex (e2'.trans e3), fun p H4 np e4 h4 => q' p H4 np e4 h4⟩)
          (by
            have z := el_lcR1 (σ := [.some (.ref sa), .some (.ref g), .some (.int n), v3, .some (.ref o), .some (.ref gp), .some (.ref a), .some (.int (i : Nat)), none]) (H := H2) (ta := tCons (tC (.int 14)) tNil) (t := tYes)
              (te := tOp rEq (tVar 8) (tOp (rI0 fun i j => .int (i + j)) (tC (.int 12)) (tVar 7))) (j := 8) (vs := [8]) (n := 14)
              (fun _ => true) (fun j => V.bl (decide (V.int (j : Nat) = V.int ((12 + i : Nat))))) (ea_cons ev_c ea_nil) ⟨by decide, by decide⟩ (fun _ => rfl)
              (fun j H3 _ _ H4 _ Q' q' => q' H4 (Ex.refl H4)) (fun j H3 _ _ _ => by
                have z := ev_op (ev_var (σ := [.some (.ref sa), .some (.ref g), .some (.int n), v3, .some (.ref o), .some (.ref gp), .some (.ref a), .some (.int (i : Nat)), .some (.int (j : Nat))]) (i := 8) (v := .int (j : Nat)) (H := H3) rfl)
                  (ev_op (r := rI0 fun i j => .int (i + j)) (ev_c (v := .int 12)) (ev_var (i := 7) (v := .int (i : Nat)) rfl) rv_I0) (rv_eq (x := .int (j : Nat)) (y := .int (12 + (i : Nat))) rfl)
                rw [show (12 : Int) + ((i : Nat) : Int) = ((12 + i : Nat) : Int) by omega] at z
                exact z)
            rw [show ((14 : Int).toNat) = 14 from rfl, kinds_given] at z
            exact z)
          fun p' q' H3 hp hq _ => rv_neB hp hq)) (fun z => nomatch z) fun _ H4 e4 => ⟨_, _, rfl, e2'.trans e4⟩
      · obtain ⟨_, _, rfl, e⟩ := pr
        exact q H'

end
end K03

set_option maxHeartbeats 0
namespace K03
open PySem PySem.Spec PyProof.Rows L2 AP Evl
/-! ### the head: what the top leaves -/
abbrev aC (K : PySem.W.Frag) (i : Nat) : Addr := He.ga K (nm i)
abbrev aI (K : PySem.W.Frag) (i : Nat) : Addr := He.ma K (He.ga K (nm i)) "__init__"
/-- an error's class as the top lays it -/
def oexB (K : PySem.W.Frag) (C : Addr) : Bool := match K.lookup C with
  | some ⟨.type "type", _, .cls cd, sl⟩ => (match cd.mro, sl.toList with
    | .ref C' :: bm, [_, _, _, _, some (.builtin n), _] => decide (C' = C) && (decide (n = "ValueError.__new__") && (!cd.hasDel && (cd.hasDict && PySem.HandSPX.refsVE bm)))
    | _, _ => false)
  | _ => false
theorem oexB_ok {K : PySem.W.Frag} {C : Addr} (h : oexB K C = true) : ∃ nm q N bs bm sn sub ab col dd k0 k1 k2 k3 k5,
    K.lookup C = some (excClassObj nm q C N bs bm true sn sub ab col dd k0 k1 k2 k3 k5 "ValueError.__new__") ∧ PySem.HandSPX.refsVE bm = true := by
  unfold oexB at h
  split at h
  · rename_i dd cd sl there
    split at h
    · rename_i C' bm k0 k1 k2 k3 n k5 mro slots
      simp only [Bool.and_eq_true, decide_eq_true_eq, Bool.not_eq_true'] at h
      obtain ⟨e1, e2, del, dict, refs⟩ := h
      obtain ⟨nm, bs, mr, ns, qn, hd, sn, sub, ab, col, dl⟩ := cd
      dsimp only at mro del dict
      subst mro del dict e1 e2
      have es : sl = #[k0, k1, k2, k3, some (.builtin "ValueError.__new__"), k5] := by
        obtain ⟨l⟩ := sl
        simp only at slots
        rw [slots]
      subst es
      exact ⟨nm, qn, ns, bs, bm, sn, sub, ab, col, dd, k0, k1, k2, k3, k5, there, refs⟩
    · cases h
  · cases h
def eqV (a b : Option Value) : Bool := decide (a = b)
def eqT (a : Option Bool) (b : Bool) : Bool := decide (a = some b)
def errKB (K : PySem.W.Frag) (C : Addr) : Bool := (PySem.W.clsIn K C).isSome && (He.eqO (PySem.W.findIn K (.ref C) "__getattribute__") (some (some (.builtin "BaseException.__getattribute__"))) &&
  (He.eqO (PySem.W.findIn K (.ref C) "__getattr__") (some none) && (eqT (PySem.W.subIn K (.ref C) (.type "BaseException")) true && (He.eqO (PySem.W.findIn K (.ref C) "__class__") (some (some (.builtin "object.__class__"))) &&
  (He.eqO (PySem.W.specialIn K (.builtin "object.__class__") "__get__") (some (some (.builtin "getset_descriptor.__get__"))) && (eqT (PySem.W.takesIn K (.builtin "object.__class__")) true && eqT (PySem.W.mroIn K C (.type "object")) true))))))
theorem errKB_ok {K : PySem.W.Frag} {C : Addr} (h : errKB K C = true) : ErrK K C := by
  simp only [errKB, eqT, He.eqO, Bool.and_eq_true, decide_eq_true_eq] at h
  obtain ⟨h1, h2, h3, h4, h5, h6, h7, h8⟩ := h
  exact ⟨h1, h2, h3, h4, h5, h6, h7, h8⟩
def errCB (K : PySem.W.Frag) (C : Addr) : Bool := oexB K C && (He.eqO (PySem.W.findIn K (.ref C) "__setattr__") (some (some (.builtin "object.__setattr__"))) && (eqT (PySem.W.subIn K (.ref C) (.type "BaseException")) true &&
  (eqV (PySem.W.typeIn K (.ref C)) (some (.type "type")) && (PySem.W.keepIn K (.ref C) && (He.eqO (PySem.W.findIn K (.ref C) "__init__") (some (some (.ref (He.ma K C "__init__")))) &&
  (eqV (PySem.W.typeIn K (.ref (He.ma K C "__init__"))) (some (.type "function")) && (PySem.W.hasDictIn K C && He.eqO (PySem.W.findIn K (.ref C) "value") (some none))))))))
theorem errCB_ok {K : PySem.W.Frag} {C : Addr} (h : errCB K C = true) : ErrC K C (He.ma K C "__init__") ∧ PySem.W.hasDictIn K C = true ∧ PySem.W.findIn K (.ref C) "value" = some none := by
  simp only [errCB, eqT, eqV, He.eqO, Bool.and_eq_true, decide_eq_true_eq] at h
  obtain ⟨h1, h2, h3, h4, h5, h6, h7, h8, h9⟩ := h
  exact ⟨⟨⟨oexB_ok h1, h2, h3, h4, h5⟩, h6, h7⟩, h8, h9⟩
def baseB (K : PySem.W.Frag) (B : Addr) : Bool := PySem.W.readsIn K B (.type "type") && (He.eqO (PySem.W.specialIn K (.ref B) "__getattribute__") (some (some (.builtin "type.__getattribute__"))) &&
  (match PySem.W.findCls K (.ref B) (.type "type") "__init__" with
    | some (.val (.builtin n)) => decide (n = "ValueError.__init__")
    | _ => false))
theorem baseB_ok {K : PySem.W.Frag} {B : Addr} (h : baseB K B = true) : BaseI K B := by
  simp only [baseB, He.eqO, Bool.and_eq_true, decide_eq_true_eq] at h
  obtain ⟨h1, h2, h3⟩ := h
  refine ⟨h1, h2, ?_⟩
  split at h3
  · rename_i n e
    rw [e, of_decide_eq_true h3]
  · cases h3
def exK (K : PySem.W.Frag) : Bool := ((List.range 14).all fun i => errKB K (aC K i)) && (((List.range 12).all fun i => errCB K (aC K i)) &&
  (((List.range 14).all fun i => (List.range 14).all fun j => eqT (PySem.W.kitOne K (.ref (aC K i)) (.ref (aC K j))) (decide (j = i))) &&
  (((List.range 14).all fun i => eqT (PySem.W.kitOne K (.ref (aC K i)) (.ref (He.ga K "CodeError"))) true && eqT (PySem.W.kitOne K (.ref (aC K i)) (.type "ValueError")) true) &&
  (baseB K (He.ga K "CodeError") && (PySem.W.excIn K (aC K 12) PySem.HandSPX.veTail "ValueError.__new__" && (PySem.W.excIn K (aC K 13) PySem.HandSPX.veTail "ValueError.__new__" &&
  ((List.range 14).all fun i => PySem.W.keepIn K (.ref (aC K i)))))))))
theorem all_lt {n : Nat} {p : Nat → Bool} (h : (List.range n).all p = true) {i : Nat} (hi : i < n) : p i = true := List.all_eq_true.mp h i (List.mem_range.mpr hi)

def fn : List He.DefD := [
  ⟨("InvalidNumber", some "__init__"), "__init__", "InvalidNumber.__init__", defArgs (ini 0), defBody (ini 0), defScope (ini 0), [.non], []⟩,
  ⟨("InvalidWidth", some "__init__"), "__init__", "InvalidWidth.__init__", defArgs (ini 1), defBody (ini 1), defScope (ini 1), [.non], []⟩,
  ⟨("InvalidWords", some "__init__"), "__init__", "InvalidWords.__init__", defArgs (ini 2), defBody (ini 2), defScope (ini 2), [.non], []⟩,
  ⟨("InvalidPlaces", some "__init__"), "__init__", "InvalidPlaces.__init__", defArgs (ini 3), defBody (ini 3), defScope (ini 3), [.non], []⟩,
  ⟨("InvalidItems", some "__init__"), "__init__", "InvalidItems.__init__", defArgs (ini 4), defBody (ini 4), defScope (ini 4), [.non], []⟩,
  ⟨("InvalidKnown", some "__init__"), "__init__", "InvalidKnown.__init__", defArgs (ini 5), defBody (ini 5), defScope (ini 5), [.non], []⟩,
  ⟨("InvalidPrices", some "__init__"), "__init__", "InvalidPrices.__init__", defArgs (ini 6), defBody (ini 6), defScope (ini 6), [.non], []⟩,
  ⟨("InvalidGrid", some "__init__"), "__init__", "InvalidGrid.__init__", defArgs (ini 7), defBody (ini 7), defScope (ini 7), [.non], []⟩,
  ⟨("InvalidLine", some "__init__"), "__init__", "InvalidLine.__init__", defArgs (ini 8), defBody (ini 8), defScope (ini 8), [.non], []⟩,
  ⟨("InvalidDeed", some "__init__"), "__init__", "InvalidDeed.__init__", defArgs (ini 9), defBody (ini 9), defScope (ini 9), [.non], []⟩,
  ⟨("Unfit", some "__init__"), "__init__", "Unfit.__init__", defArgs (ini 10), defBody (ini 10), defScope (ini 10), [.non], []⟩,
  ⟨("TooMany", some "__init__"), "__init__", "TooMany.__init__", defArgs (ini 11), defBody (ini 11), defScope (ini 11), [.non], []⟩,
  ⟨("_law_hash", none), "_law_hash", "_law_hash", defArgs s_hash, defBody s_hash, defScope s_hash, [], []⟩,
  ⟨("_law_random", none), "_law_random", "_law_random", defArgs s_random, defBody s_random, defScope s_random, [], []⟩,
  ⟨("_law_cell", none), "_law_cell", "_law_cell", defArgs s_cell, defBody s_cell, defScope s_cell, [], []⟩,
  ⟨("_law_generator", none), "_law_generator", "_law_generator", defArgs s_generator, defBody s_generator, defScope s_generator, [], []⟩,
  ⟨("_law_made", none), "_law_made", "_law_made", defArgs s_law_made, defBody s_law_made, defScope s_law_made, [], []⟩,
  ⟨("_law_named", none), "_law_named", "_law_named", defArgs s_law_named, defBody s_law_named, defScope s_law_named, [], []⟩,
  ⟨("_law_empty", none), "_law_empty", "_law_empty", defArgs s_law_empty, defBody s_law_empty, defScope s_law_empty, [], []⟩,
  ⟨("_law_kinds", none), "_law_kinds", "_law_kinds", defArgs s_law_kinds, defBody s_law_kinds, defScope s_law_kinds, [], []⟩,
  ⟨("_law_row_right", none), "_law_row_right", "_law_row_right", defArgs s_row, defBody s_row, defScope s_row, [], []⟩,
  ⟨("law", none), "law", "law", defArgs s_law, defBody s_law, defScope s_law, [], []⟩]
def fa : List He.Fa := [.glo "InvalidNumber", .glo "InvalidWidth", .glo "InvalidWords", .glo "InvalidPlaces", .glo "InvalidItems", .glo "InvalidKnown", .glo "InvalidPrices", .glo "InvalidGrid", .glo "InvalidLine", .glo "InvalidDeed", .glo "Unfit", .glo "TooMany", .glo "NothingToUndo", .glo "NothingToRedo", .glo "CodeError", .glo "_law_hash", .glo "_law_random", .glo "_law_cell", .glo "_law_generator", .glo "_law_made", .glo "_law_named", .glo "_law_empty", .glo "_law_kinds", .glo "_law_row_right", .glo "law", .free "int", .free "len", .free "sum", .free "max", .free "range", .free "repr", .free "isinstance", .free "enumerate", .free "ValueError"]
/-- the hook: the defs, the names, the classes -/
abbrev AlE : Type := He.AlD × Bool
def asE (g : Addr → Option Obj) (n : Nat) : List Addr := cStatics :: He.asD g n
def obsE (n : Nat) (g : Addr → Option Obj) : AlE := (He.obsD fa fn (He.frG g (asE g n)), exK (He.frG g (asE g n)))
theorem obsE_two {n : Nat} {g : Addr → Option Obj} {a : He.AlD} {b : Bool} (e : obsE n g = (a, b)) : He.obsD fa fn (He.frG g (asE g n)) = a ∧ exK (He.frG g (asE g n)) = b := Prod.mk.inj e
def SaysE (K : PySem.W.Frag) : Prop := He.SaysD fa fn K ∧ exK K = true
def hk : PySem.W.Hook where
  α := AlE
  obs := fun s => obsE 4 s.heap.get?
  val := fun _ => (He.valD fn, true)
  says := fun _ h => ∃ K : PySem.W.Frag, K.In h ∧ SaysE K
  of := fun _ _ e => ⟨_, He.frG_in, obsE_two e⟩
  keeps := fun _ _ _ ⟨K, hK, c⟩ k => ⟨K, PySem.W.Frag.In.keeps hK k, c⟩
def ob (s : PySem.W.SharedT) : AlE := obsE 4 (HandSHeadRun.getT s)
theorem ob_eq (s : PySem.W.SharedT) : ob s = hk.obs s.abs := by
  have e : HandSHeadRun.getT s = s.abs.heap.get? := funext (HandSHeadRun.getT_eq s)
  show obsE 4 (HandSHeadRun.getT s) = obsE 4 s.abs.heap.get?
  rw [e]
abbrev R : PySem.W.OpenRow := PySem.W.OpenLaw.row PySem.Challenge.rw_anyplaces_k03_errors_by_their_classes
theorem run (w : World) : HandSHeadRun.RunEq R (PySem.W.view R.prog [26]) hk ob 6000 ["CodeError", "InvalidNumber", "InvalidWidth", "InvalidWords", "InvalidPlaces", "InvalidItems", "InvalidKnown", "InvalidPrices", "InvalidGrid", "InvalidLine", "InvalidDeed", "Unfit", "TooMany", "NothingToUndo", "NothingToRedo", "_law_hash", "_law_random", "_law_cell", "_law_generator", "_law_made", "_law_named", "_law_empty", "_law_kinds", "_law_row_right"] w := by
  intro os
  kernel_rfl

theorem errB_of {K : PySem.W.Frag} {qual : Str} {a : Arguments} {p q : Pos} {n m : Option Expr} {d : Expr} {body : List Stmt} {scope : Scope} {kws} {f : Addr} {fd : FuncData}
    (F : FunD K "__init__" qual a body scope [.non] kws f fd) (e : a = ⟨[], [⟨"self", n, p⟩, ⟨"value", m, q⟩], none, [], [], none, [d]⟩) : ErrB K fd := by
  subst e
  obtain ⟨ds2, v2, B2⟩ := FunD.binds1 (ps := ["self", "value"]) F 2 1 (List.cons_ne_nil _ _) rfl fun _ _ _ _ _ _ _ us its hu hi => match us, its, hu, hi with | [_, _], [_], _, _ => ⟨_, rfl, rfl⟩
  obtain ⟨ds1, v1, B1⟩ := FunD.binds1 (ps := ["self", "value"]) F 1 0 (List.cons_ne_nil _ _) rfl fun _ _ _ _ _ _ _ us its hu hi => match us, its, hu, hi with | [_], [_], _, _ => ⟨_, rfl, rfl⟩
  obtain ⟨its, Bk⟩ := FunD.kbindsD (ps := ["self", "value"]) F 1 ["value"] (fun us _ ws => us ++ ws) (List.cons_ne_nil _ _) (fun r1 _ r3 => r1.append r3) fun _ _ _ _ _ _ _ us its ws hu hi hw => match us, its, ws, hu, hi, hw with | [_], [_], [_], _, _, _ => ⟨_, rfl, rfl⟩
  cases v2
  cases v1 with
  | cons r rr =>
    cases r
    cases rr
    exact ⟨fun a y s' i => B2 s' [.ref a, y] i rfl, fun a s' i => B1 s' [.ref a] i rfl, fun a y s' i => Bk.to s' [.ref a] [y] i rfl rfl⟩
theorem facts {P : Program} {w : World} {K : PySem.W.Frag} {h : Heap} {mg : Str → Option Value} {f : Addr} (X : K.In h) (G : h.Ns mainGlobals mg) (hfa : mg ("law" : Str) = some (.ref f)) (c : SaysE K) :
    ∃ fd : FuncData, (∀ (s : Shared) (v : Value), BindsTo s fd ⟨[v], []⟩ [("_law_script", v)]) ∧ ∀ base : Heap, K.In base → base.Ns mainGlobals mg → FnG P w K mg base CX0 4 f fd ["_law_script"] (spLaw K) := by
  obtain ⟨c, ex⟩ := c
  simp only [exK, Bool.and_eq_true] at ex
  obtain ⟨x1, x2, x3, x4, x5, x6, x7, x8⟩ := ex
  obtain ⟨fd0, F0⟩ := c.def_ 0 (d := _) rfl
  obtain ⟨fd1, F1⟩ := c.def_ 1 (d := _) rfl
  obtain ⟨fd2, F2⟩ := c.def_ 2 (d := _) rfl
  obtain ⟨fd3, F3⟩ := c.def_ 3 (d := _) rfl
  obtain ⟨fd4, F4⟩ := c.def_ 4 (d := _) rfl
  obtain ⟨fd5, F5⟩ := c.def_ 5 (d := _) rfl
  obtain ⟨fd6, F6⟩ := c.def_ 6 (d := _) rfl
  obtain ⟨fd7, F7⟩ := c.def_ 7 (d := _) rfl
  obtain ⟨fd8, F8⟩ := c.def_ 8 (d := _) rfl
  obtain ⟨fd9, F9⟩ := c.def_ 9 (d := _) rfl
  obtain ⟨fd10, F10⟩ := c.def_ 10 (d := _) rfl
  obtain ⟨fd11, F11⟩ := c.def_ 11 (d := _) rfl
  obtain ⟨d0, Z0⟩ := c.def_ 12 (d := _) rfl
  obtain ⟨d1, Z1⟩ := c.def_ 13 (d := _) rfl
  obtain ⟨d2, Z2⟩ := c.def_ 14 (d := _) rfl
  obtain ⟨d3, Z3⟩ := c.def_ 15 (d := _) rfl
  obtain ⟨d4, Z4⟩ := c.def_ 16 (d := _) rfl
  obtain ⟨d5, Z5⟩ := c.def_ 17 (d := _) rfl
  obtain ⟨d6, Z6⟩ := c.def_ 18 (d := _) rfl
  obtain ⟨d7, Z7⟩ := c.def_ 19 (d := _) rfl
  obtain ⟨d8, Z8⟩ := c.def_ 20 (d := _) rfl
  obtain ⟨d9, Z9⟩ := c.def_ 21 (d := _) rfl
  have glo : ∀ (i : Nat) (y : Str), fa[i]? = some (.glo y) → mg y = some (.ref (He.ga K y)) := fun i y e => He.glo_ok X G (c.fact i e)
  have free : ∀ (i : Nat) (y : Str), fa[i]? = some (.free y) → mg y = none := fun i y e => He.free_ok X G (c.fact i e)
  have two : ∀ {qual : Str} {st : Stmt} {fI : Addr} {fd : FuncData}, True := trivial
  have b0 : ErrB K fd0 := errB_of F0 rfl
  have b1 : ErrB K fd1 := errB_of F1 rfl
  have b2 : ErrB K fd2 := errB_of F2 rfl
  have b3 : ErrB K fd3 := errB_of F3 rfl
  have b4 : ErrB K fd4 := errB_of F4 rfl
  have b5 : ErrB K fd5 := errB_of F5 rfl
  have b6 : ErrB K fd6 := errB_of F6 rfl
  have b7 : ErrB K fd7 := errB_of F7 rfl
  have b8 : ErrB K fd8 := errB_of F8 rfl
  have b9 : ErrB K fd9 := errB_of F9 rfl
  have b10 : ErrB K fd10 := errB_of F10 rfl
  have b11 : ErrB K fd11 := errB_of F11 rfl
  let fdI : Nat → FuncData := fun i => [fd0, fd1, fd2, fd3, fd4, fd5, fd6, fd7, fd8, fd9, fd10, fd11].getD i fd0
  have T : T3 K mg (aC K) (aI K) fdI (He.ga K "CodeError") := {
    b := ⟨free 25 _ rfl, free 26 _ rfl, free 27 _ rfl, free 28 _ rfl, free 29 _ rfl⟩
    repr := free 30 _ rfl
    isi := free 31 _ rfl
    enum := free 32 _ rfl
    ve := free 33 _ rfl
    mC := fun i hi => match i, hi with
      | 0, _ => glo 0 _ rfl
      | 1, _ => glo 1 _ rfl
      | 2, _ => glo 2 _ rfl
      | 3, _ => glo 3 _ rfl
      | 4, _ => glo 4 _ rfl
      | 5, _ => glo 5 _ rfl
      | 6, _ => glo 6 _ rfl
      | 7, _ => glo 7 _ rfl
      | 8, _ => glo 8 _ rfl
      | 9, _ => glo 9 _ rfl
      | 10, _ => glo 10 _ rfl
      | 11, _ => glo 11 _ rfl
      | 12, _ => glo 12 _ rfl
      | 13, _ => glo 13 _ rfl
    mB := glo 14 _ rfl
    base := baseB_ok x5
    e := fun i hi => (errCB_ok (all_lt x2 hi)).1
    bi := fun i hi => match i, hi with
      | 0, _ => b0
      | 1, _ => b1
      | 2, _ => b2
      | 3, _ => b3
      | 4, _ => b4
      | 5, _ => b5
      | 6, _ => b6
      | 7, _ => b7
      | 8, _ => b8
      | 9, _ => b9
      | 10, _ => b10
      | 11, _ => b11
    k := fun i hi => errKB_ok (all_lt x1 hi)
    dict := fun i hi => (errCB_ok (all_lt x2 hi)).2.1
    no := fun i hi => (errCB_ok (all_lt x2 hi)).2.2
    kit := fun i j hi hj => of_decide_eq_true (all_lt (all_lt x3 hi) hj)
    kitB := fun i hi => of_decide_eq_true (Bool.and_eq_true_iff.mp (all_lt x4 hi)).1
    kitV := fun i hi => of_decide_eq_true (Bool.and_eq_true_iff.mp (all_lt x4 hi)).2
    exc := fun i hi hj => match i, hi, hj with
      | 12, _, _ => x6
      | 13, _, _ => x7
    keep := fun i hi => all_lt x8 hi }
  have e := hfa.symm.trans (glo 24 "law" rfl)
  cases e
  have B0 : Binds K d0 ["_law_seed", "_law_index"] [] := FunD.bindsN Z0 fun _ _ _ _ _ _ us hl => match us, hl with | [_, _], _ => rfl
  have B1 : Binds K d1 ["_law_generator_here", "_law_bound"] [] := FunD.bindsN Z1 fun _ _ _ _ _ _ us hl => match us, hl with | [_, _], _ => rfl
  have B2 : Binds K d2 ["_law_script", "_law_index"] [] := FunD.bindsN Z2 fun _ _ _ _ _ _ us hl => match us, hl with | [_, _], _ => rfl
  have B3 : Binds K d3 ["_law_script", "_law_index"] [] := FunD.bindsN Z3 fun _ _ _ _ _ _ us hl => match us, hl with | [_, _], _ => rfl
  have B4 : Binds K d4 ["_law_value"] [] := FunD.bindsN Z4 fun _ _ _ _ _ _ us hl => match us, hl with | [_], _ => rfl
  have B5 : Binds K d5 ["_law_value"] [] := FunD.bindsN Z5 fun _ _ _ _ _ _ us hl => match us, hl with | [_], _ => rfl
  have B6 : Binds K d6 [] [] := FunD.bindsN Z6 fun _ _ _ _ _ _ us hl => match us, hl with | [], _ => rfl
  have B7 : Binds K d7 ["_law_error"] [] := FunD.bindsN Z7 fun _ _ _ _ _ _ us hl => match us, hl with | [_], _ => rfl
  have B8 : Binds K d8 ["_law_errors", "_law_value"] [] := FunD.bindsN Z8 fun _ _ _ _ _ _ us hl => match us, hl with | [_, _], _ => rfl
  have bl := FunD.bindsA (ps := ["_law_script"]) Z9 fun _ _ _ _ _ _ us hl => match us, hl with | [_], _ => rfl
  refine ⟨d9, fun s v => bl s [v] rfl, fun base _ _ => ?_⟩
  have GI : Inits P w K mg base (aC K) (aI K) fdI := fun i hi => match i, hi with
    | 0, _ => ok_ini0 F0 T
    | 1, _ => ok_ini1 F1 T
    | 2, _ => ok_ini2 F2 T
    | 3, _ => ok_ini3 F3 T
    | 4, _ => ok_ini4 F4 T
    | 5, _ => ok_ini5 F5 T
    | 6, _ => ok_ini6 F6 T
    | 7, _ => ok_ini7 F7 T
    | 8, _ => ok_ini8 F8 T
    | 9, _ => ok_ini9 F9 T
    | 10, _ => ok_ini10 F10 T
    | 11, _ => ok_ini11 F11 T
  refine ok_law Z9 T (fG := He.ga K "_law_generator") (fR := He.ga K "_law_random") (fM := He.ga K "_law_made") (fN := He.ga K "_law_named") (fE := He.ga K "_law_empty") (fK := He.ga K "_law_kinds") (fW := He.ga K "_law_row_right") (dG := d3) (dR := d1) (dM := d4) (dN := d5) (dE := d6) (dK := d7) (dW := d8)
    { G := ok_generator Z3 T.b Z2 (glo 17 _ rfl) B2, R := ok_random Z1 T.b Z0 (glo 15 _ rfl) B0, M := ok_law_made Z4 T GI, N := ok_law_named Z5 T GI, E := ok_law_empty Z6 T GI, Kn := ok_law_kinds Z7 T, W := ok_row Z8 T Z7 (glo 22 _ rfl) B7 T.b.range,
      bG := B3, bR := B1, bM := B4, bN := B5, bE := B6, bK := B7, bW := B8, mG := glo 18 _ rfl, mR := glo 16 _ rfl, mM := glo 19 _ rfl, mN := glo 20 _ rfl, mE := glo 21 _ rfl, mK := glo 22 _ rfl, mW := glo 23 _ rfl,
      kG := Z3.kp, kR := Z1.kp, kM := Z4.kp, kN := Z5.kp, kE := Z6.kp, kK := Z7.kp, kW := Z8.kp }
end K03
open PySem PySem.W PySem.Calls PyProof.Rows
theorem PySem.Challenge.cw_anyplaces_k03_errors_by_their_classes_holds : PySem.Challenge.rw_anyplaces_k03_errors_by_their_classes.Holds := by
  w_on; o_law
  refine HandSHeadRun.head_any (r := OpenLaw.row PySem.Challenge.rw_anyplaces_k03_errors_by_their_classes) (q := view (OpenLaw.row PySem.Challenge.rw_anyplaces_k03_errors_by_their_classes).prog [26]) (H := K03.hk) (ob := K03.ob) (M := 6000) (loose := ["CodeError", "InvalidNumber", "InvalidWidth", "InvalidWords", "InvalidPlaces", "InvalidItems", "InvalidKnown", "InvalidPrices", "InvalidGrid", "InvalidLine", "InvalidDeed", "Unfit", "TooMany", "NothingToUndo", "NothingToRedo", "_law_hash", "_law_random", "_law_cell", "_law_generator", "_law_made", "_law_named", "_law_empty", "_law_kinds", "_law_row_right"]) (d := HandSHeadRun.topDef (OpenLaw.row PySem.Challenge.rw_anyplaces_k03_errors_by_their_classes).prog 26) (kwd := []) K03.ob_eq
    (by kernel_rfl) (fun s => by kernel_rfl) K03.run (by kernel_rfl) (by kernel_rfl) (by kernel_rfl) (by rfl) (by first | assumption | decide +kernel) (by decide +kernel) ⟨rfl, rfl, rfl, rfl, rfl, by decide +kernel⟩ ?hw ?hc
  case hw => w_witness2
  case hc =>
    refine AP.walk_G (l := PySem.Challenge.rw_anyplaces_k03_errors_by_their_classes) (n := 63) (k := 4) (x := "_law_script") rfl (by decide) (by kernel_rfl) ⟨rfl, by decide, by decide⟩ ?F
    intro w mg fa h Y G hmg0
    obtain ⟨K, KX, c⟩ := Y
    have hmg : mg ("law" : PySem.Str) = some (.ref fa) := by
      have e : (HandSHeadRun.topDef (OpenLaw.row PySem.Challenge.rw_anyplaces_k03_errors_by_their_classes).prog 26).name = ("law" : PySem.Str) := by kernel_rfl
      rw [← e]
      exact hmg0
    obtain ⟨fd, hb, hF⟩ := K03.facts (P := (PySem.Challenge.rw_anyplaces_k03_errors_by_their_classes).prog) (w := w) KX G hmg c
    exact ⟨K, fd, K03.spLaw K, KX, hb, fun H a ns hl _ hS => ⟨a, ns, rfl, hS, fun _ => rfl⟩, hF⟩

