import PyProof.Rows.All
import Wide.All
import OpenK.AllK
import Wide.FinOn
import PyProof.EqAt
import PyProof.EqKinds
import PyProof.TupleCall
import PyProof.ReprRoads
import PyProof.ReprLen
import HandS.ForMost
import HandS.ForExc
import HandS.ExcInit
import HandS.ExcValue
import HandS.Defaults
import HandS.Wide
import HandS.WideBits
import HandS.Evl
import KE.KExcIs
import HandS.More
import HandS.SortInts
import HandS.IsInst
import HandS.Conv
import HandS.Zip
import HandS.Rev
import HandS.Style
import HandS.Flow
import PySem.Challenge.RW_anyplaces_k01_widths_words_and_places
import Lean
import KE.KStateDown
import HandS.MakeKw
import HandS.Head0
import HandS.Head1
import HandS.Head2
import HandS.HeadEnd
import HandS.HeadHook1
import HandS.HeadHook2
set_option Elab.async false
set_option linter.all false
set_option maxRecDepth 100000
set_option maxHeartbeats 4000000
/-! Rules that the laws of anyplaces want beside the layer's own. -/
namespace AP
open PySem PySem.Spec PyProof.Rows L2

/-! ### a power of any size -/
def PowOk (i j : Int) : Prop := 0 ≤ j ∧ (Builtin.Int.intBits i : Int) * j ≤ 2 ^ 27
theorem op_powW {X : Cx} : OpR X (binaryOp .Pow) (rI PowOk fun i j => .int (i ^ j.toNat)) :=
  opI fun _ _ _ _ _ _ _ ok go => pow_int ok.1 ok.2 go

/-! ### a def that is called where no repr is under way -/
structure FnG (P : Program) (w : World) (K : PySem.W.Frag) (mg : Str → Option Value) (base : Heap) (CX : CXT)
    (k : Nat) (f : Addr) (fd : FuncData) (ps : List Str) (sp : Sp) : Prop where
  size : ∀ vs H Q E, sp vs H Q E → vs.length = ps.length
  goes : ∀ (A : Around) (outer : List Env) (s : Shared) (H : Hp) (args : Args) (us : List Value) (vs : List V) (Q : VK) (E : XK),
    A.guards = some [] → Room k A → Env0 P w K mg base A outer s H → BindsTo s fd args (ps.zip us) → Vals vs us →
      sp vs H Q E → codeAny (model P w) A (.call (.ref f) args) (CR CX outer P w H s Q E) s
theorem FnG.of {P : Program} {w : World} {K : PySem.W.Frag} {mg : Str → Option Value} {base : Heap} {CX : CXT} {k : Nat} {f : Addr} {fd : FuncData} {ps : List Str} {sp : Sp}
    (F : FnOk P w K mg base CX k f fd ps sp) : FnG P w K mg base CX k f fd ps sp :=
  ⟨F.len, fun A outer s H args us vs Q E _ r e b v h => F.run A outer s H args us vs Q E r e b v h⟩

theorem guards_deeper (A : Around) (env : Env) : (A.deeper env).guards = A.guards := rfl

section
variable {P : Program} {w : World} {K : PySem.W.Frag} {mg : Str → Option Value} {base : Heap}
/-- a def of the text as it stands behind the top, dvs its defaults -/
abbrev Df (K : PySem.W.Frag) (x qual : Str) (st : Stmt) (dvs : List V) (f : Addr) (fd : FuncData) : Prop :=
  FunD K x qual (defArgs st) (defBody st) (defScope st) dvs [] f fd
theorem Df.go {x qual : Str} {st : Stmt} {dvs : List V} {f : Addr} {fd : FuncData} {N ps : List Str} {k : Nat} {sp : Sp}
    (F : Df K x qual st dvs f fd) (S : FnScope N ps (defScope st)) (size : ∀ vs H Q E, sp vs H Q E → vs.length = ps.length)
    (body : ∀ (cdv : Value) (A : Around) (outer : List Env) (s : Shared) (H : Hp) (vs : List V) (Q : VK) (E : XK),
      Room k (A.deeper (envOfC qual (defScope st) s.heap.objs.size f cdv)) → sp vs H Q E →
        ∃ t, PSs (cxOf CX0 P w K mg base N qual (defScope st) f cdv A outer s H E).nox (defBody st) t ∧
          t { nx := fun _ H' => Q .non H', rt := Q } (start N vs) H) :
    FnOk P w K mg base CX0 (k + 1) f fd ps sp :=
  FunD.ok F S size fun cdv A outer s H vs Q E hr h => by
    obtain ⟨t, ht, hq⟩ := body cdv A outer s H vs Q E hr h
    exact ⟨t, ht.nox, hq⟩
theorem Df.goG {x qual : Str} {st : Stmt} {dvs : List V} {f : Addr} {fd : FuncData} {N ps : List Str} {k : Nat} {sp : Sp}
    (F : Df K x qual st dvs f fd) (S : FnScope N ps (defScope st)) (size : ∀ vs H Q E, sp vs H Q E → vs.length = ps.length)
    (body : ∀ (cdv : Value) (A : Around) (outer : List Env) (s : Shared) (H : Hp) (vs : List V) (Q : VK) (E : XK),
      (A.deeper (envOfC qual (defScope st) s.heap.objs.size f cdv)).guards = some [] →
      Room k (A.deeper (envOfC qual (defScope st) s.heap.objs.size f cdv)) → sp vs H Q E →
        ∃ t, PSs (cxOf CX0 P w K mg base N qual (defScope st) f cdv A outer s H E).nox (defBody st) t ∧
          t { nx := fun _ H' => Q .non H', rt := Q } (start N vs) H) :
    FnG P w K mg base CX0 (k + 1) f fd ps sp := by
  obtain ⟨oc, od, dV, kV, doc, pm, an, cdv, ct, osl, rfl, there, code, _, _⟩ := F.ex
  refine ⟨size, fun A outer s H args us vs Q E noG room env0 bind vals want => ?_⟩
  have many := size _ _ _ _ want
  have inK : K.In s.heap := env0.mod.kin.keeps fun b o e => (env0.bs b o e).1
  have lim : s.heap.NoLimit := env0.mod.nolimit.keeps fun b o e => (env0.bs b o e).1
  have kinds : ∀ y ∈ ps.zip us, (defScope st).names.lookup y.1 = some .local ∨
      ((defScope st).names.lookup y.1 = some .cell ∧
        ((cellsFrom (s.heap.objs.size + 1) (defScope st).names []).lookup y.1).isSome = true) := by
    rintro ⟨n, v⟩ hy
    rcases S.par n (List.of_mem_zip hy).1 with q | q
    · exact .inl q
    · exact .inr ⟨q, PySem.W.cellsFrom_some _ _ _ (.inl q)⟩
  refine codeAny_call_function room.depth (inK _ _ there) rfl S.co S.gen rfl
    (PySem.W.codeRec_of inK code) (bind _ _ _ _ ?_)
  refine wpAny_newFunctionEnv_cells S.kind kinds fun env eenv s1 call => ?_
  subst eenv
  refine ⟨lim.keeps call.toInCall.keep, codeAny_func ?_⟩
  obtain ⟨t, ht, hq⟩ := body cdv A outer s H vs Q E noG (room.deeper _) want
  have J := inv_start (CX := CX0) (E := E) S room.hd env0 many vals call
  refine wpAny_mono (ht.nox.run [] s1 (start N vs) H _ J hq) (fun fl s' hs => ?_) fun e s' hs => hs
  cases fl with
  | ret u =>
    obtain ⟨v, σ', H', I, rv, q⟩ := hs
    exact ⟨v, H', I.os, I.bare, I.base, I.hok, rv, q⟩
  | next =>
    obtain ⟨σ', H', I, q⟩ := hs
    exact ⟨V.non, H', I.os, I.bare, I.base, I.hok, rfl, q⟩
  | brk =>
    obtain ⟨_, _, _, q⟩ := hs
    exact q.elim
  | cont =>
    obtain ⟨_, _, _, q⟩ := hs
    exact q.elim
end

section
variable {X : Cx} {CX : CXT} {k : Nat} {f : Addr} {fd : FuncData} {ps : List Str} {sp : Sp} {dvs : List V} {ds : List Value} {E : XK} {x : Str} {p pos : Pos} {e : Expr} {es : List Expr} {t : TA}
theorem run_g {pins : List (Addr × Obj)} {σ : L2.St} {H : Hp} {s : Shared} {Q : VK} {us : List Value} {vs : List V}
    (F : FnG X.prog X.w X.K X.mg X.base CX k f fd ps sp) (ng : X.A.guards = some []) (hr : Room k X.A)
    (hb : Binds X.K fd ps ds) (hd : Vals dvs ds) (hx : Passes CX X E) (I : Inv X pins σ H s) (r : Vals vs us)
    (h : sp (vs ++ dvs) H Q E) : wpAny (model X.prog X.w) X.A (call (.ref f) us) (EP X pins σ Q) X.xe s := by
  have both : Vals (vs ++ dvs) (us ++ ds) := r.append hd
  have many : (us ++ ds).length = ps.length := both.length.symm.trans (F.size _ _ _ _ h)
  refine wpAny_call (codeAny_mono (F.goes X.A X.stack s H ⟨us, []⟩ (us ++ ds) (vs ++ dvs) Q E ng hr I.env0
    (hb s us I.kIn many) both h) fun res s' hq => ?_)
  cases res with
  | error er => exact hx pins σ H s er s' I hq
  | ok fl =>
    cases fl with
    | ret u => exact I.after hq
    | next => exact hq.elim
    | brk => exact hq.elim
    | cont => exact hq.elim
theorem pe_callG (F : FnG X.prog X.w X.K X.mg X.base CX k f fd ps sp) (ng : X.A.guards = some []) (hr : Room k X.A)
    (hg : Gl X x) (hm : X.mg x = some (.ref f)) (hk : PySem.W.keepIn X.K (.ref f) = true) (hb : Binds X.K fd ps ds)
    (hd : Vals dvs ds) (hx : Passes CX X E) (ha : PA X (e :: es) t) (hdb : (x == ("__debug__" : Str)) = false := by decide)
    (he : starEach (e :: es) X.env = (false, eval e X.env) :: starEach es X.env := by rfl)
    (hpl : (backTo pos (starEach es X.env)).any (·.1) = false := by rfl) :
    PE X (.Call (.Name x p) (e :: es) [] pos) (tCall sp dvs E t) := by
  refine ⟨fun pins s σ H Q I h => wpAny_Call_Name_kw (ld_glob I hg hm ?_ hdb)⟩
  exact PySem.W.callWith_K (h₀ := X.base) I.ok.mod.kin hk
    (thn (ha.run pos pins s σ H _ I h) fun us s1 ⟨vs, H1, I1, r, q⟩ => ⟨I1.kIn, run_g F ng hr hb hd hx I1 r q⟩) he hpl
end

/-! ### repr of data -/
section
variable {X : Cx} {pins : List (Addr × Obj)} {σ : L2.St} {H : Hp} {s : Shared}
/-- repr(x): the text of its data -/
def rRepr (K : PySem.W.Frag) : List V → Hp → VK → Prop := fun xs H Q => ∃ (v : V) (d : PyData), xs = [v] ∧ Dp K H v d ∧
  d.showable = true ∧ d.hasDict = false ∧ d.depth ≤ 60 ∧ d.shown.length ≤ sizeLine ∧ Q (.str d.shown) H
theorem call_reprD (ng : X.A.guards = some []) (hu : X.A.units + 64 < cLine) : CallR X (.builtin "repr") (rRepr X.K) := by
  intro pins s σ H xs us Q I r h
  obtain ⟨v, d, rfl, hd, hs, hn, hdep, hsz, q⟩ := h
  obtain ⟨u, rfl, ru⟩ := vals1 r
  obtain ⟨as, rd⟩ := Dp.reads I d v u hd ru
  cases hd with
  | non => cases ru; exact PySem.P.repr_of_none ⟨.str _, H, I.tok _, ⟨_, rfl⟩, q⟩
  | bl b =>
    cases ru
    exact PySem.P.repr_of_bool ⟨.str _, H, I.tok _, ⟨_, rfl⟩, q⟩
  | int i =>
    obtain ⟨t, rfl⟩ := ru
    exact PySem.P.repr_of_int (of_decide_eq_true hs) ⟨.str _, H, I.tok _, ⟨_, rfl⟩, q⟩
  | str z =>
    obtain ⟨t, rfl⟩ := ru
    exact PySem.P.repr_of_str ⟨.str _, H, I.tok _, ⟨_, rfl⟩, q⟩ hsz
  | lst a b =>
    cases ru
    exact repr_of_reads' rd hs (fun z => by rw [hn] at z; cases z) ng (by omega) (fun _ _ e => e)
      (fun h' t tk hk => ⟨.str _, H, I.kept (t' := tk) hk, ⟨t, rfl⟩, q⟩) hsz
  | tup a b =>
    cases ru
    exact repr_of_reads' rd hs (fun z => by rw [hn] at z; cases z) ng (by omega) (fun _ _ e => e)
      (fun h' t tk hk => ⟨.str _, H, I.kept (t' := tk) hk, ⟨t, rfl⟩, q⟩) hsz
/-- repr of a dict of numbers by a text -/
def oneD (z : Str) (n : Int) : PyData := .dict [(.str z, .int n)]
def rReprD : List V → Hp → VK → Prop := fun xs H Q => ∃ (a : Addr) (z : Str) (n : Int), xs = [.ref a] ∧ H a = some (.dK [(Sum.inr z, .int n)]) ∧
  (oneD z n).showable = true ∧ (oneD z n).shown.length ≤ sizeLine ∧ Q (.str (oneD z n).shown) H
theorem one_reads {a : Addr} {z : Str} {n : Int} (I : Inv X pins σ H s) (h : H a = some (.dK [(Sum.inr z, .int n)])) : Reads s.heap (.ref a) (oneD z n) [a] ∧ a ≠ sysModules := by
  obtain ⟨_, ns, vs, kv, o, es, ep, ho, hx, hd, _, hp, _⟩ := (show ObjOk X.prog X.w H s.heap a (.dK [(Sum.inr z, V.int n)]) from I.hok a _ h)
  refine ⟨?_, fun q => by rw [q] at ns; exact absurd ns (by decide)⟩
  cases kv with
  | @cons p q ps qs h1 h2 =>
    cases h2
    obtain ⟨k, u⟩ := q
    obtain ⟨e1, e2⟩ := h1
    obtain ⟨t, rfl⟩ := e2
    cases (show Sum.inr z = k from e1)
    generalize hl : es.toList = l at hp
    cases hp with
    | @cons e kv es' kvs' i1 i2 i3 =>
      cases i3
      have ik : keyIs (Sum.inr z) e.key = true := i1
      rcases keyIs_shape ik with ⟨i, t', q, _⟩ | ⟨z', t', q, ek⟩
      · cases q
      · cases q
        refine Reads.dict (as := []) (bs := []) ho hx.1 hd ?_ ?_
        · rw [hl]
          show ReadsAll s.heap [e.key] [PyData.str z] ([] ++ [])
          rw [ek]
          exact .cons (.str z t') .nil
        · rw [hl]
          show ReadsAll s.heap [e.val] [PyData.int n] ([] ++ [])
          rw [show e.val = Value.int n t from i2]
          exact .cons (.int n t) .nil
theorem call_reprO (ng : X.A.guards = some []) (hu : X.A.units + 64 < cLine) : CallR X (.builtin "repr") rReprD := by
  intro pins s σ H xs us Q I r h
  obtain ⟨a, z, n, rfl, hd, hs, hsz, q⟩ := h
  obtain ⟨u, rfl, ru⟩ := vals1 r
  cases ru
  obtain ⟨rd, ns⟩ := one_reads I hd
  exact repr_of_reads' rd hs (fun _ m => by cases m with | head => exact ns rfl | tail _ z => cases z) ng
    (by have e : (oneD z n).depth = 1 := by simp [oneD, PyData.depth, PyData.depthKv]
        omega) (fun _ _ e => e) (fun h' t tk hk => ⟨.str _, H, I.kept (t' := tk) hk, ⟨t, rfl⟩, q⟩) hsz
theorem CallR.or {f : Value} {r r' : List V → Hp → VK → Prop} (h : CallR X f r) (h' : CallR X f r') : CallR X f (fun xs H Q => r xs H Q ∨ r' xs H Q) := by
  intro pins s σ H xs us Q I rv hh
  rcases hh with hh | hh
  · exact h pins s σ H xs us Q I rv hh
  · exact h' pins s σ H xs us Q I rv hh
end

/-! ### the end of a law whose def is kept by FnG -/
section
variable {P : Program} {w : World} {K : PySem.W.Frag} {mg mb : Str → Option Value} {k : Nat} {fa a : Addr} {fd : FuncData} {x : Str} {sp : Sp} {s1 : Shared} {vs : List Value} {ns : List Int}
/-- what the law's call has to come to -/
def Good (s1 : Shared) : Result → Shared → Prop := fun r s' =>
  r = .ok (.ret (.bool true)) ∧ OldK s1.heap s'.heap ∧ s'.os = s1.os ∧ AllBare s'.gens
theorem law_from (KX : K.In s1.heap) (hns : s1.heap.Ns mainGlobals mg) (hb : s1.heap.Ns builtinsNs mb)
    (hbb : ∀ y : Str, y ≠ "__name__" → mb y = bootBuiltins y) (hlim : s1.heap.NoLimit) (hg : s1.gens = #[])
    (ha : s1.heap.get? a = some { cls := .type "list", data := .seq vs.toArray }) (hr : Room k callerA)
    (F : ∀ base : Heap, K.In base → base.Ns mainGlobals mg → FnG P w K mg base CX0 k fa fd [x] sp)
    (bind : ∀ (s : Shared) (u : Value), BindsTo s fd ⟨[u], []⟩ [(x, u)])
    (H : Hp) (only : Only H) (want : sp [.ref a] H (fun v _ => v = .bl true) fun _ _ _ => False) (hok : HOk P w H s1.heap)
    (alone : ∀ b u, H b = some u → b = a) (apart : ∀ u, H a = some u → K.lookup a = none) :
    codeAny (model P w) callerA (.call (.ref fa) ⟨[.ref a], []⟩) (Good s1) s1 := by
  -- a dict is not the script
  have dct : ∀ {b : Addr} {o : Obj} {es : Array DictEntry} {ep : Nat}, s1.heap.get? b = some o → o.data = .dict es ep → H b = none := by
    intro b o es ep e d
    cases q : H b with
    | none => rfl
    | some u =>
      cases alone b u q
      rw [ha] at e
      cases e
      cases (show Data.seq vs.toArray _ = Data.dict es ep from d)
  have nsB : ∀ {b : Addr} {m : Str → Option Value}, s1.heap.Ns b m → (hidT s1.heap H).Ns b m := by
    rintro b m ⟨o, es, ep, e, d, r⟩
    exact ⟨o, es, ep, hidT_get e (dct e d), d, r⟩
  have inB : K.In (hidT s1.heap H) := by
    intro b o e
    refine hidT_get (KX b o e) ?_
    cases q : H b with
    | none => rfl
    | some u =>
      cases alone b u q
      rw [apart u q] at e
      cases e
  have mod : Mod K mg (hidT s1.heap H) := by
    obtain ⟨mc, l1, l2⟩ := hlim
    exact ⟨inB, nsB hns, ⟨mb, nsB hb, hbb⟩, mc, nsB l1, l2⟩
  have env : Env0 P w K mg (hidT s1.heap H) callerA [] s1 H :=
    ⟨rfl, mod, fun b o e => of_hidT e, Nat.le_of_eq (hidT_size _ _), trivial, fun b hb => absurd (show b ∈ ([] : List Addr) from hb) (by simp), hok, .of_eq hg⟩
  have run := (F _ inB (nsB hns)).goes callerA [] s1 H ⟨[.ref a], []⟩ [.ref a] [.ref a] _ _ rfl hr env (bind s1 (.ref a)) (.cons rfl .nil) want
  refine codeAny_mono run fun r s' h => ?_
  cases r with
  | error e => exact False.elim h
  | ok fl =>
    cases fl with
    | next => exact False.elim h
    | brk => exact False.elim h
    | cont => exact False.elim h
    | ret u =>
      obtain ⟨v, H', os, bare, un, hok', rv, q⟩ := h
      cases (show v = V.bl true from q)
      obtain rfl : u = Value.bool true := rv
      refine ⟨rfl, OldK.of_keep fun b o e => ?_, os, bare⟩
      rcases only b with n | ⟨ob, xs, z⟩
      · exact un.keep b o e n (by intro m; exact absurd (show b ∈ ([] : List Addr) from m) (by simp)) (by simp)
      · have then_ := un.frzs b ob _ z
        obtain ⟨e1, _⟩ := hok b _ z
        obtain ⟨e2, _⟩ := hok' b _ then_
        rw [e] at e1
        cases e1
        exact e2
theorem law_callG (KX : K.In s1.heap) (hns : s1.heap.Ns mainGlobals mg) (hb : s1.heap.Ns builtinsNs mb)
    (hbb : ∀ y : Str, y ≠ "__name__" → mb y = bootBuiltins y) (hlim : s1.heap.NoLimit) (hg : s1.gens = #[])
    (ha : s1.heap.get? a = some { cls := .type "list", data := .seq vs.toArray }) (hi : IntsAre vs ns) (hl : ns.length ≤ sizeLine) (hr : Room k callerA)
    (F : ∀ base : Heap, K.In base → base.Ns mainGlobals mg → FnG P w K mg base CX0 k fa fd [x] sp)
    (bind : ∀ (s : Shared) (u : Value), BindsTo s fd ⟨[u], []⟩ [(x, u)])
    (want : ∀ H : Hp, Only H → SqL K H a (ns.map V.int) → sp [.ref a] H (fun v _ => v = .bl true) fun _ _ _ => False) :
    codeAny (model P w) callerA (.call (.ref fa) ⟨[.ref a], []⟩) (Good s1) s1 := by
  have rv := vals_ints hi
  have many := hi.length
  cases hk : K.lookup a with
  | some o =>
    have e := KX a o hk
    rw [ha] at e
    cases e
    have o0 : Only fun _ => none := fun _ => .inl rfl
    refine law_from KX hns hb hbb hlim hg ha hr F bind (fun _ => none) o0 (want _ o0 (.inr ?_)) (fun b u z => by cases (show (none : Option HO) = some u from z)) (fun b u z => by cases (show (none : Option HO) = some u from z)) (fun u z => by cases (show (none : Option HO) = some u from z))
    exact ⟨_, vs.toArray, _, hk, rfl, rfl, rfl, by rw [List.size_toArray, many]; exact hl, by simpa using rv⟩
  | none =>
    have o1 : Only fun b => if b = a then some (.frz { cls := .type "list", data := .seq vs.toArray } (.lst (ns.map V.int))) else none := by
      intro b
      by_cases h : b = a
      · exact .inr ⟨_, _, if_pos h⟩
      · exact .inl (if_neg h)
    refine law_from KX hns hb hbb hlim hg ha hr F bind _ o1 (want _ o1 (.inl (.inr ⟨{ cls := .type "list", data := .seq vs.toArray }, if_pos rfl⟩))) (fun b u z => ?_) (fun b u z => ?_) fun _ _ => hk
    · by_cases h : b = a
      · subst h
        cases (if_pos rfl).symm.trans z
        exact ⟨ha, by rw [List.length_map]; exact hl, vs, _, rv, ha⟩
      · cases (if_neg h).symm.trans z
    · by_cases h : b = a
      · exact h
      · cases (if_neg h).symm.trans z
end
theorem walk_G {l : PySem.W.OpenLaw} {n k : Nat} {q : Program} {loose : List Str} {XP : (Str → Option Value) → Heap → Prop} {YP : World → Heap → Prop} {d : DefRec} {x : Str}
    (hn : l.most = some n) (small : n ≤ sizeLine) (nod : d.params.defaults = []) (hr : Room k callerA)
    (F : ∀ (w : World) (mg : Str → Option Value) (fa : Addr) (h : Heap), YP w h → h.Ns mainGlobals mg → mg d.name = some (.ref fa) →
      ∃ (K : PySem.W.Frag) (fd : FuncData) (sp : Sp), K.In h ∧ (∀ (s : Shared) (u : Value), BindsTo s fd ⟨[u], []⟩ [(x, u)]) ∧
        (∀ (H : Hp) (a : Addr) (ns : List Int), ns.length ≤ n → Only H → SqL K H a (ns.map V.int) → sp [.ref a] H (fun v _ => v = .bl true) fun _ _ _ => False) ∧
        ∀ base : Heap, K.In base → base.Ns mainGlobals mg → FnG l.prog w K mg base CX0 k fa fd [x] sp) :
    PySem.W.WalkO q loose XP YP l.row.toRowW d [] (fun f vs => PySem.call f vs) := by
  refine Att.attach_call hn nod fun w s₀ s₁ mg mb fa o pm cd doc a vs ns G Y ho hd hcd hmg hobj hints hlen hg => ?_
  obtain ⟨K, fd, sp, KX, bind, want, FF⟩ := F w mg fa _ Y G.T.g hmg
  exact law_callG KX G.T.g G.T.b G.T.builtins G.T.nolimit hg hobj hints (Nat.le_trans hlen small) hr FF bind fun H hO hS => want H a ns hlen hO hS
end AP

set_option maxHeartbeats 4000000
/-! An error's class called with its one keyword. -/
namespace PySem
namespace APX
open Builtin PySem.HandSPX
section
variable {prog : Program} {w : World} {M : Model} {A : Around} {E : Value → Shared → Prop} {R : Result → Shared → Prop} {h : Heap} {g : Array GenState} {d : Drawn} {t : Nat} {os : OsState}
variable {nm q : Str} {C N : Addr} {bs bm bmB : List Value} {hdct : Bool} {sn : List Str} {sub : List Value} {ab : Bool} {col : Option Bool} {dd : Option Addr}
variable {k0 k1 k2 k3 k5 : Option Value} {B newId initId : String} {u : Value}
/-- the one keyword -/
abbrev kwV (u : Value) : List (Str × Value) := [(("value" : Str), u)]

theorem check_kw (F : ExcBaseFacts B newId initId bmB) (hT : ∀ Y : String, bm.contains (.type Y) = bmB.contains (.type Y)) {Q : Unit → Shared → Prop}
    (hC : h.get? C = some (excClassObj nm q C N bs bm hdct sn sub ab col dd k0 k1 k2 k3 k5 newId)) (go : Q () ⟨h, g, d, t, os⟩) :
    wpAny M A (checkBuiltinCall newId ⟨[.ref C], kwV u⟩) Q E ⟨h, g, d, t, os⟩ := by
  have star := F.noStar
  have inB : (Value.ref C :: bm).contains (.type B) = true := by rw [List.contains_cons, hT, F.hasB, Bool.or_true]
  simp only [checkBuiltinCall, F.newSplit, F.newKind, F.newRow]
  repeat (first
    | refine wpAny_loadPart_at hC ?_
    | (refine wpAny_isSubtype_exc hC ?_; rw [inB])
    | refine wpAny_staticBase_exc hC ?_
    | refine wpAny_madeBy_exc hC ?_
    | simp only [Bool.false_eq_true, bne_self_eq_false, if_false]
    | wp_step)
  exact go

theorem new_kw (F : ExcBaseFacts B newId initId bmB) (hT : ∀ Y : String, bm.contains (.type Y) = bmB.contains (.type Y))
    (hC : h.get? C = some (excClassObj nm q C N bs bm hdct sn sub ab col dd k0 k1 k2 k3 k5 newId))
    (go : R (.ok (.ret (.ref (h.objs.size + 1)))) ⟨(h.push (PySem.W.kdv_tup [])).push (excO C h.objs.size), g, d, t, os⟩) :
    codeAny (model prog w) A (.builtin newId ⟨[.ref C], kwV u⟩) R ⟨h, g, d, t, os⟩ := by
  have last := F.ends
  have inB : (Value.ref C :: bm).contains (.type B) = true := by rw [List.contains_cons, hT, F.hasB, Bool.or_true]
  have notA : (Value.ref C :: bm).contains (.type "AttributeError") = false := by rw [List.contains_cons, hT, F.noAttr] <;> rfl
  have notN : (Value.ref C :: bm).contains (.type "NameError") = false := by rw [List.contains_cons, hT, F.noName] <;> rfl
  refine codeAny_builtinAt F.entry ?_
  unfold Builtin.«BaseException.__new__»
  refine wpAt_bind ?_
  show wpAt _ _ _ (stack >>= _) _ _ (⟨h, g, d, t, os⟩ : Shared)
  refine wpAt_bind (wpAt_stack fun p under => wpAt_of_wpAny ?_)
  wp_walk
  refine wpAt_of_wpAny ?_
  rw [F.owner]
  repeat (first
    | with_reducible refine wpAny_madeHere_exc F.canon hC ?_
    | with_reducible refine wpAny_loadPart_at hC ?_
    | (with_reducible refine wpAny_isSubtype_exc hC ?_
       first | rw [inB] | rw [notA] | rw [notN])
    | wp_step)
  show R _ _
  rw [Heap.size_push]
  exact go

theorem type_call_kw (F : ExcBaseFacts B newId initId bmB) (hT : ∀ Y : String, bm.contains (.type Y) = bmB.contains (.type Y)) {fI : Addr} {Q : Fin → Shared → Prop}
    (hC : h.get? C = some (excClassObj nm q C N bs bm hdct sn sub ab col dd k0 k1 k2 k3 k5 newId))
    (init : W.Looks (model prog w) h (typeLookup (.ref C) "__init__") (some (.ref fI)))
    (bound : ∀ self, W.Looks (model prog w) h (bindSpecial (.ref fI) self) (.ref fI, [self]))
    (go : codeAny (model prog w) A (.call (.ref fI) ⟨[.ref (h.objs.size + 1)], kwV u⟩)
      (fun r s' => match r with | .ok (.ret v) => v = .none ∧ Q (.done (.ret (.ref (h.objs.size + 1)))) s' | .ok _ => False | .error e => E e s')
      ⟨(h.push (PySem.W.kdv_tup [])).push (excO C h.objs.size), g, d, t, os⟩) :
    wpAny (model prog w) A (Builtin.«type.__call__» ⟨[.ref C], kwV u⟩) Q E ⟨h, g, d, t, os⟩ := by
  repeat (first
    | with_reducible refine wpAny_loadPart_at hC ?_
    | with_reducible refine wpAny_madeBy_exc hC ?_
    | wp_step)
  refine codeAny_call_builtin_code (Code.quiet_builtin _ F.quiet) (check_kw F hT hC (new_kw F hT hC ?_))
  show wpAny _ _ _ _ _ _
  have kept : ∀ b o, h.get? b = some o → ((h.push (PySem.W.kdv_tup [])).push (excO C h.objs.size)).get? b = some o := fun b o e =>
    Heap.get?_push_of_some _ (Heap.get?_push_of_some _ e)
  have cls := kept _ _ hC
  have made : ((h.push (PySem.W.kdv_tup [])).push (excO C h.objs.size)).get? (h.objs.size + 1) = some (excO C h.objs.size) := by heap_get
  have own : (Value.ref C :: bm).contains (.ref C) = true := by simp
  have i1 := init.keeps kept
  have b1 := (bound (.ref (h.objs.size + 1))).keeps kept
  unfold isInstance
  repeat (first
    | with_reducible refine wpAny_loadPart_at made ?_
    | (with_reducible refine wpAny_isSubtype_exc cls ?_; rw [own])
    | wp_step)
  show wpAny _ _ (typeLookup (.ref C) _) _ _ _
  refine i1.at (wpAny_holding (wpAny_bind (b1.at (wpAny_bind (wpAny_call (codeAny_mono go fun r s' z => ?_))))))
  cases r with
  | error e => exact z
  | ok fl =>
    cases fl with
    | ret v =>
      obtain ⟨rfl, z⟩ := z
      first
        | exact wpAny_pure (wpAny_pure z)
        | (wp_walk; exact z)
    | next => exact z.elim
    | brk => exact z.elim
    | cont => exact z.elim

theorem call_kw (F : ExcBaseFacts B newId initId bmB) (hT : ∀ Y : String, bm.contains (.type Y) = bmB.contains (.type Y)) {fI : Addr}
    (hC : h.get? C = some (excClassObj nm q C N bs bm hdct sn sub ab col dd k0 k1 k2 k3 k5 newId))
    (init : W.Looks (model prog w) h (typeLookup (.ref C) "__init__") (some (.ref fI)))
    (bound : ∀ self, W.Looks (model prog w) h (bindSpecial (.ref fI) self) (.ref fI, [self]))
    (go : codeAny (model prog w) (A.under (.builtin "type.__call__" ⟨[.ref C], kwV u⟩)) (.call (.ref fI) ⟨[.ref (h.objs.size + 1)], kwV u⟩)
      (W.InitBack (h.objs.size + 1) R) ⟨(h.push (PySem.W.kdv_tup [])).push (excO C h.objs.size), g, d, t, os⟩) :
    codeAny (model prog w) A (.call (.ref C) ⟨[], kwV u⟩) R ⟨h, g, d, t, os⟩ := by
  have look := tc_lookup
  have bind := tc_bind (.ref C)
  have ty : (⟨h, g, d, t, os⟩ : Shared).TypeIs (.ref C) "type" := ⟨_, hC, rfl⟩
  refine codeAny_of_tree ?_
  show wpAny _ _ (callAny (.ref C) _) _ _ (⟨h, g, d, t, os⟩ : Shared)
  repeat (any_goals (first
    | assumption
    | with_reducible refine wpAny_loadPart_at hC ?_
    | wp_step))
  refine ⟨rfl, ?_⟩
  refine codeAny_call_builtin_at (Code.quiet_builtin _ (by decide +kernel)) entry_typeCall (wpAny_check_type_call_sub hC ?_)
  refine type_call_kw F hT hC init bound (codeAny_mono go fun r s' z => ?_)
  rcases r with e | (v | _ | _ | _) <;> exact z
end
end APX
end PySem

set_option maxHeartbeats 4000000
/-! Errors with an own __init__ as values: made, their kinds asked, their field read. -/
namespace AP
open PySem PySem.Spec PyProof.Rows L2
/-! ### C(..) as a value -/
/-- what of the text an error's class has: its own line, its __init__ at fI -/
structure ErrC (K : PySem.W.Frag) (C fI : Addr) : Prop where
  o : OexC K C
  iC : PySem.W.findIn K (.ref C) "__init__" = some (some (.ref fI))
  tI : PySem.W.typeIn K (.ref fI) = some (.type "function")
/-- the promise of an error's __init__: the field is set -/
def spErr (C : Addr) : Sp := fun vs H Q _ => ∃ (a : Addr) (v : V), vs = [.ref a, v] ∧ H a = some (exo a C none) ∧
  ∀ d, H d = none → d ≠ a → Q .non (upd (upd H d (exd d [("value", v)])) a (exo a C (some d)))
/-- at x an error of the class at C with this value -/
def IsErr (C : Addr) (v x : V) (H : Hp) : Prop := ∃ a d, x = .ref a ∧ H a = some (exo a C (some d)) ∧ H d = some (exd d [("value", v)])
theorem IsErr.ex {C : Addr} {v x : V} {H H' : Hp} (e : Evl.Ex H H') (h : IsErr C v x H) : IsErr C v x H' := by
  obtain ⟨a, d, q, h1, h2⟩ := h
  exact ⟨a, d, q, e _ _ h1, e _ _ h2⟩
section
variable {X : Cx} {C fI : Addr} {k : Nat} {fd : FuncData} {x : Str} {p pos : Pos} {e : Expr} {te : TE}
variable {pins : List (Addr × Obj)} {σ : L2.St} {H : Hp} {s s' : Shared} {Q : VK}
theorem err_back {R' : Result → Shared → Prop} {a : Addr} {E : XK} {r : Result} (I : Inv X pins σ H s)
    (q : CR CX0 X.stack X.prog X.w H s (fun y H2 => y = .non ∧ Q (.ref a) H2) E r s')
    (ok : EP X pins σ Q (.ref a) s' → R' (.ok (.ret (.ref a))) s') : W.InitBack a R' r s' := by
  cases r with
  | error er => exact q.elim
  | ok fl =>
    cases fl with
    | ret u =>
      obtain ⟨y, H', J, rv, ey, q3⟩ := I.after q
      subst ey
      exact ⟨rv, ok ⟨V.ref a, H', J, rfl, q3⟩⟩
    | next => exact q.elim
    | brk => exact q.elim
    | cont => exact q.elim
/-- what stands in the wish of __init__'s promise -/
theorem err_want {a : Addr} {v : V} {E : XK} (na : H a = none)
    (want : ∀ H2, Evl.Ex H H2 → IsErr C v (.ref a) H2 → Q (.ref a) H2) :
    spErr C [.ref a, v] (upd H a (exo a C none)) (fun y H2 => y = .non ∧ Q (.ref a) H2) E := by
  refine ⟨a, v, rfl, upd_same, fun d nd ne => ⟨rfl, want _ (fun b o hb => ?_) ⟨a, d, rfl, upd_same, ?_⟩⟩⟩
  · have b1 : b ≠ a := ne_of_none hb na
    have b2 : b ≠ d := by
      intro z
      subst z
      rw [upd_ne b1, hb] at nd
      cases nd
    rw [upd_ne b1, upd_ne b2, upd_ne b1]
    exact hb
  · rw [upd_ne ne]
    exact upd_same
theorem made_inv {us : List Value} (I : Inv X pins σ H s) :
    Inv X pins σ (upd H (s.heap.objs.size + 1) (exo (s.heap.objs.size + 1) C none))
      { s with heap := (s.heap.push (PySem.W.kdv_tup us)).push (HandSPX.excO C s.heap.objs.size) } := by
  have at_ : ((s.heap.push (PySem.W.kdv_tup us)).push (HandSPX.excO C s.heap.objs.size)).get? (s.heap.objs.size + 1) = some (HandSPX.excO C s.heap.objs.size) := by heap_get
  exact I.laid (t' := s.toks) (fun b o z => Heap.get?_push_of_some _ (Heap.get?_push_of_some _ z)) (Nat.le_succ _) (exo_ok at_)
theorem run_err {v : V} {y : Value} {us : List Value} (T : ErrC X.K C fI) (F : FnOk X.prog X.w X.K X.mg X.base CX0 k fI fd ["self", "value"] (spErr C))
    (hr : Room (k + 1) X.A) (I : Inv X pins σ H s) (ry : RelV v y) (small : us.length ≤ sizeLine)
    (bind : ∀ (a : Addr) (s' : Shared), X.K.In s'.heap → BindsTo s' fd ⟨.ref a :: us, []⟩ [("self", .ref a), ("value", y)])
    (want : ∀ a H2, H a = none → Evl.Ex H H2 → IsErr C v (.ref a) H2 → Q (.ref a) H2) :
    wpAny (model X.prog X.w) X.A (call (.ref C) us) (EP X pins σ Q) X.xe s := by
  obtain ⟨nm, q, N, bs, bm, sn, sub, ab, col, dd, k0, k1, k2, k3, k5, hC, hbm⟩ := T.o.cls
  have na : H (s.heap.objs.size + 1) = none := I.hok.fresh (Nat.le_succ _)
  have J := made_inv (C := C) (us := us) I
  obtain ⟨hp, g, dr, tk, os⟩ := s
  refine wpAny_call (HandSPX.call_own PySem.F.excBase_ValueError (fun Y => HandSPX.refsVE_contains Y bm hbm) (I.kIn _ _ hC) (PySem.W.looks_findIn I.kIn T.iC)
    (fun self => PySem.W.bind_fn I.kIn self T.tI) small (codeAny_mono (F.run _ X.stack _ _ ⟨Value.ref (hp.objs.size + 1) :: us, []⟩ [.ref (hp.objs.size + 1), y]
      [.ref (hp.objs.size + 1), v] _ E0 (hr.make C us []) (J.env0.make C us []) (bind _ _ J.kIn) (.cons rfl (.cons ry .nil))
      (err_want na fun H2 => want _ H2 na)) fun r s' z => ?_))
  exact err_back J z fun z => z
theorem run_errK {v : V} {y : Value} (T : ErrC X.K C fI) (F : FnOk X.prog X.w X.K X.mg X.base CX0 k fI fd ["self", "value"] (spErr C))
    (hr : Room (k + 1) X.A) (I : Inv X pins σ H s) (ry : RelV v y)
    (bind : ∀ (a : Addr) (s' : Shared), X.K.In s'.heap → BindsTo s' fd ⟨[.ref a], PySem.APX.kwV y⟩ [("self", .ref a), ("value", y)])
    (want : ∀ a H2, H a = none → Evl.Ex H H2 → IsErr C v (.ref a) H2 → Q (.ref a) H2) :
    wpAny (model X.prog X.w) X.A (call (.ref C) [] (PySem.APX.kwV y)) (EP X pins σ Q) X.xe s := by
  obtain ⟨nm, q, N, bs, bm, sn, sub, ab, col, dd, k0, k1, k2, k3, k5, hC, hbm⟩ := T.o.cls
  have na : H (s.heap.objs.size + 1) = none := I.hok.fresh (Nat.le_succ _)
  have J := made_inv (C := C) (us := []) I
  obtain ⟨hp, g, dr, tk, os⟩ := s
  refine wpAny_call (PySem.APX.call_kw PySem.F.excBase_ValueError (fun Y => HandSPX.refsVE_contains Y bm hbm) (I.kIn _ _ hC) (PySem.W.looks_findIn I.kIn T.iC)
    (fun self => PySem.W.bind_fn I.kIn self T.tI) (codeAny_mono (F.run _ X.stack _ _ ⟨[Value.ref (hp.objs.size + 1)], PySem.APX.kwV y⟩ [.ref (hp.objs.size + 1), y]
      [.ref (hp.objs.size + 1), v] _ E0 (hr.make C [] (PySem.APX.kwV y)) (J.env0.make C [] (PySem.APX.kwV y)) (bind _ _ J.kIn) (.cons rfl (.cons ry .nil))
      (err_want na fun H2 => want _ H2 na)) fun r s' z => ?_))
  exact err_back J z fun z => z
/-- C(e), C(value=e) -/
def tErr (C : Addr) (te : TE) : TE := fun σ H Q => te σ H fun v H1 => ∀ a H2, H1 a = none → Evl.Ex H1 H2 → IsErr C v (.ref a) H2 → Q (.ref a) H2
/-- how the arguments of an error's __init__ bind -/
structure ErrB (K : PySem.W.Frag) (fd : FuncData) : Prop where
  two : ∀ (a : Addr) (y : Value) (s' : Shared), K.In s'.heap → BindsTo s' fd ⟨[.ref a, y], []⟩ [("self", .ref a), ("value", y)]
  one : ∀ (a : Addr) (s' : Shared), K.In s'.heap → BindsTo s' fd ⟨[.ref a], []⟩ [("self", .ref a), ("value", .none)]
  kw : ∀ (a : Addr) (y : Value) (s' : Shared), K.In s'.heap → BindsTo s' fd ⟨[.ref a], PySem.APX.kwV y⟩ [("self", .ref a), ("value", y)]
theorem pe_err (T : ErrC X.K C fI) (b : ErrB X.K fd) (F : FnOk X.prog X.w X.K X.mg X.base CX0 k fI fd ["self", "value"] (spErr C)) (hr : Room (k + 1) X.A)
    (hg : Gl X x) (hm : X.mg x = some (.ref C)) (ha : PE X e te) (hdb : (x == ("__debug__" : Str)) = false := by decide)
    (he : starEach [e] X.env = (false, eval e X.env) :: starEach [] X.env := by rfl) (hpl : (backTo pos (starEach [] X.env)).any (·.1) = false := by rfl) :
    PE X (.Call (.Name x p) [e] [] pos) (tErr C te) := by
  refine ⟨fun pins s σ H Q I h => wpAny_Call_Name_kw (ld_glob I hg hm ?_ hdb)⟩
  have args : PA X [e] (tCons te tNil) := pa_cons ha pa_nil he
  refine PySem.W.callWith_K (h₀ := X.base) I.ok.mod.kin T.o.kC (thn (args.run pos pins s σ H (fun vs H1 => ∃ v, vs = [v] ∧ ∀ a H2, H1 a = none → Evl.Ex H1 H2 → IsErr C v (.ref a) H2 → Q (.ref a) H2) I ?_) fun us s1 hs => ?_) he hpl
  · have h' : te σ H fun v H1 => ∀ a H2, H1 a = none → Evl.Ex H1 H2 → IsErr C v (.ref a) H2 → Q (.ref a) H2 := h
    show te σ H fun v H1 => ∃ w, [v] = [w] ∧ ∀ a H2, H1 a = none → Evl.Ex H1 H2 → IsErr C w (.ref a) H2 → Q (.ref a) H2
    have mono : (fun (v : V) (H1 : Hp) => ∀ a H2, H1 a = none → Evl.Ex H1 H2 → IsErr C v (.ref a) H2 → Q (.ref a) H2) = fun v H1 => ∃ w, [v] = [w] ∧ ∀ a H2, H1 a = none → Evl.Ex H1 H2 → IsErr C w (.ref a) H2 → Q (.ref a) H2 := by
      funext v H1
      refine propext ⟨fun z => ⟨v, rfl, z⟩, fun ⟨w, q, z⟩ => ?_⟩
      cases q
      exact z
    rw [← mono]
    exact h'
  · obtain ⟨vs, H1, I1, r, v, ev, q⟩ := hs
    subst ev
    obtain ⟨y, rfl, ry⟩ := vals1 r
    exact ⟨I1.kIn, run_err (us := [y]) T F hr I1 ry (by show 1 ≤ sizeLine; decide) (fun a s' i => b.two a y s' i) q⟩
theorem pe_err0 (T : ErrC X.K C fI) (b : ErrB X.K fd) (F : FnOk X.prog X.w X.K X.mg X.base CX0 k fI fd ["self", "value"] (spErr C)) (hr : Room (k + 1) X.A)
    (hg : Gl X x) (hm : X.mg x = some (.ref C)) (hdb : (x == ("__debug__" : Str)) = false := by decide) :
    PE X (.Call (.Name x p) [] [] pos) (tErr C (tC .non)) := by
  refine ⟨fun pins s σ H Q I h => wpAny_Call_Name_kw (ld_glob I hg hm ?_ hdb)⟩
  exact PySem.W.callWith_K0 I.kIn T.o.kC (run_err (us := []) (v := .non) (y := .none) T F hr I rfl (by show 0 ≤ sizeLine; decide) (fun a s' i => b.one a s' i) h)
theorem pe_errK {kpos : Pos} (T : ErrC X.K C fI) (b : ErrB X.K fd) (F : FnOk X.prog X.w X.K X.mg X.base CX0 k fI fd ["self", "value"] (spErr C)) (hr : Room (k + 1) X.A)
    (hg : Gl X x) (hm : X.mg x = some (.ref C)) (ha : PE X e te) (hdb : (x == ("__debug__" : Str)) = false := by decide)
    (hall : (backToKw pos (keywordEach [⟨some "value", e, kpos⟩] X.env)).all (·.1.isSome) = true := by rfl) (hks : (backToKw pos (keywordEach [⟨some "value", e, kpos⟩] X.env)).filterMap (·.1) = (["value"] : List Str) := by rfl) :
    PE X (.Call (.Name x p) [] [⟨some "value", e, kpos⟩] pos) (tErr C te) := by
  refine ⟨fun pins s σ H Q I h => wpAny_Call_Name_kw (ld_glob I hg hm ?_ hdb)⟩
  have kws : PK X [⟨some "value", e, kpos⟩] (tCons te tNil) := pk_cons ha pk_nil
  refine PySem.W.callWith_KW0 (h₀ := X.base) I.ok.mod.kin T.o.kC hall (thn (kws.run pos pins s σ H (fun vs H1 => ∃ v, vs = [v] ∧ ∀ a H2, H1 a = none → Evl.Ex H1 H2 → IsErr C v (.ref a) H2 → Q (.ref a) H2) I ?_) fun us s1 hs => ?_)
  · have h' : te σ H fun v H1 => ∀ a H2, H1 a = none → Evl.Ex H1 H2 → IsErr C v (.ref a) H2 → Q (.ref a) H2 := h
    show te σ H fun v H1 => ∃ w, [v] = [w] ∧ ∀ a H2, H1 a = none → Evl.Ex H1 H2 → IsErr C w (.ref a) H2 → Q (.ref a) H2
    have mono : (fun (v : V) (H1 : Hp) => ∀ a H2, H1 a = none → Evl.Ex H1 H2 → IsErr C v (.ref a) H2 → Q (.ref a) H2) = fun v H1 => ∃ w, [v] = [w] ∧ ∀ a H2, H1 a = none → Evl.Ex H1 H2 → IsErr C w (.ref a) H2 → Q (.ref a) H2 := by
      funext v H1
      refine propext ⟨fun z => ⟨v, rfl, z⟩, fun ⟨w, q, z⟩ => ?_⟩
      cases q
      exact z
    rw [← mono]
    exact h'
  · obtain ⟨vs, H1, I1, r, v, ev, q⟩ := hs
    subst ev
    obtain ⟨y, rfl, ry⟩ := vals1 r
    refine ⟨I1.kIn, ?_⟩
    rw [hks]
    exact run_errK T F hr I1 ry (fun a s' i => b.kw a y s' i) q
/-! ### the __init__ -/
/-- D.__init__(self, ..), D an own class whose __init__ is ValueError's -/
structure BaseI (K : PySem.W.Frag) (D : Addr) : Prop where
  rd : PySem.W.readsIn K D (.type "type") = true
  ga : PySem.W.specialIn K (.ref D) "__getattribute__" = some (some (.builtin "type.__getattribute__"))
  at_ : PySem.W.findCls K (.ref D) (.type "type") "__init__" = some (.val (.builtin "ValueError.__init__"))
theorem pe_ceinit {p1 p2 : Pos} {D : Addr} {es : List Expr} {ta : TA} {pl : Sem Bool} (hg : Gl X x) (hm : X.mg x = some (.ref D)) (B : BaseI X.K D) (ha : PA X (e :: es) ta)
    (hdb : (x == ("__debug__" : Str)) = false := by decide)
    (hc : eval (.Call (.Attribute (.Name x p1) "__init__" p2) (e :: es) [] pos) X.env = (do
      let ov ← eval (.Name x p1) X.env
      standAt p2.atName
      let (f, first) ← holding [ov] (getMethod ov "__init__" pl)
      callWith pos f first (backTo pos (starEach (e :: es) X.env)) (backToKw pos (keywordEach [] X.env))) := by rfl)
    (he : starEach (e :: es) X.env = (false, eval e X.env) :: starEach es X.env := by rfl) (hpl : (backTo pos (starEach es X.env)).any (·.1) = false := by rfl) :
    PE X (.Call (.Attribute (.Name x p1) "__init__" p2) (e :: es) [] pos) (tVeI X.K ta) := by
  refine ⟨fun pins s σ H Q I h => PySem.W.methodCall_KW (ld_glob I hg hm ?_ hdb) hc⟩
  refine PySem.W.method_cls I.kIn B.ga (PySem.W.cls_value I.kIn B.rd B.at_ (by decide +kernel) ?_)
  show wpAny _ _ (callWith pos (Value.builtin "ValueError.__init__") [] (backTo pos (starEach (e :: es) X.env)) []) _ _ _
  refine PyProof.Rows.callWith_method1 (thn (ha.run pos pins _ σ H _ (I.tok _) h) fun us s1 hs => ?_) he hpl
  obtain ⟨vs, H1, I1, r1, a, C, ws, rfl, many, T, ea, q⟩ := hs
  cases r1 with
  | @cons _ u0 _ ur ra rw' =>
    obtain rfl : u0 = Value.ref a := ra
    have small : ur.length ≤ sizeLine := by
      rw [← Paired.length rw', sizeLine_eq]
      omega
    exact oinit_ok T I1 ea small fun s' J => ⟨.non, H1, J, rfl, q⟩
/-! ### isinstance, the field -/
/-- what isinstance and reads of fields want of an error's class -/
structure ErrK (K : PySem.W.Frag) (C : Addr) : Prop where
  cl : (PySem.W.clsIn K C).isSome = true
  ga : PySem.W.findIn K (.ref C) "__getattribute__" = some (some (.builtin "BaseException.__getattribute__"))
  gt : PySem.W.findIn K (.ref C) "__getattr__" = some none
  sub : PySem.W.subIn K (.ref C) (.type "BaseException") = some true
  ha : PySem.W.findIn K (.ref C) "__class__" = some (some (.builtin "object.__class__"))
  hn : PySem.W.specialIn K (.builtin "object.__class__") "__get__" = some (some (.builtin "getset_descriptor.__get__"))
  tk : PySem.W.takesIn K (.builtin "object.__class__") = some true
  hm : PySem.W.mroIn K C (.type "object") = some true
/-- isinstance(x, c), x an error of the class at C -/
def rIsErr (K : PySem.W.Frag) : List V → Hp → VK → Prop := fun xs H Q => ∃ (a C : Addr) (c : V) (cv : Value) (b : Bool), xs = [.ref a, c] ∧ ErrK K C ∧
  ((∃ d fs, H a = some (exo a C (some d)) ∧ H d = some (exd d fs)) ∨ H a = some (ExO (.ref C) a)) ∧ (∀ u, RelV c u → u = cv) ∧ PySem.W.kitOne K (.ref C) cv = some b ∧ Q (.bl b) H
theorem call_isErr : CallR X (.builtin "isinstance") (rIsErr X.K) := by
  intro pins s σ H xs us Q I r h
  obtain ⟨a, C, c, cv, b, rfl, G, at_, hcv, e, q⟩ := h
  obtain ⟨u1, u2, rfl, r1, r2⟩ := vals2 r
  cases r1
  cases hcv _ r2
  have fin : ∀ tk, EP X pins σ Q (.bool b) { s with toks := tk } := fun tk => ⟨.bl b, H, I.tok tk, rfl, q⟩
  rcases at_ with ⟨d, fs, h1, h2⟩ | h1
  · obtain ⟨t1, ho⟩ := exo_at I.hok h1
    obtain ⟨mA, hns, rel⟩ := exd_at I.hok h2
    obtain ⟨oD, _, _, hoD, _, _⟩ := hns.count (within_of rel)
    exact PySem.W.kia_one (PySem.W.kitx_exc (od := some oD) G.cl G.ga G.gt G.sub G.ha G.hn G.tk G.hm) I.kIn ⟨ho, rfl, rfl, hoD⟩ e (fun z => nomatch z) fin
  · have ob : ObjOk X.prog X.w H s.heap a (ExO (.ref C) a) := I.hok a _ h1
    obtain ⟨⟨oe, vs, ho, hz, hd, _⟩, _, _⟩ := ob
    obtain ⟨oc, odd, oda, osl⟩ := oe
    obtain ⟨z1, z2⟩ := hz
    dsimp only at z1 z2 hd
    subst z1 z2 hd
    exact PySem.W.kia_one (PySem.W.kitx_exc (od := none) G.cl G.ga G.gt G.sub G.ha G.hn G.tk G.hm) I.kIn ⟨ho, rfl, rfl, trivial⟩ e (fun z => nomatch z) fin
/-- x.f, x an error of an own class that has its dict -/
def tErrF (K : PySem.W.Frag) (f : Str) (te : TE) : TE := fun σ H Q => te σ H fun x H1 => ∃ (a C d : Addr) (fs : List (Str × V)) (v : V), x = .ref a ∧ ErrK K C ∧ PySem.W.hasDictIn K C = true ∧
  PySem.W.findIn K (.ref C) f = some none ∧ H1 a = some (exo a C (some d)) ∧ H1 d = some (exd d fs) ∧ fs.lookup f = some v ∧ Q v H1
theorem pe_errF {f : Str} (he : PE X e te) (hb : attributeBase e f X.env (eval e X.env) = eval e X.env := by rfl) :
    PE X (.Attribute e f pos) (tErrF X.K f te) := by
  refine ⟨fun pins s σ H Q I h => attr_of hb (thn (he.run pins s σ H _ I h) fun u s1 hh => ?_)⟩
  obtain ⟨x, H1, I1, rx, a, C, d, fs, v, rfl, G, dict, no, h1, h2, l, q⟩ := hh
  cases rx
  obtain ⟨t1, ho⟩ := exo_at I1.hok h1
  obtain ⟨mA, hns, rel⟩ := exd_at I1.hok h2
  obtain ⟨od, hod, look⟩ := lookIn_ns hns
  obtain ⟨y, hy, ry⟩ := RelO.some_of (v := v) (o := mA f) (by rw [← l]; exact rel f)
  exact HandSPX.exc_get I1.kIn (od := some od) ⟨ho, rfl, rfl, hod⟩ G.ga G.gt G.sub (PySem.W.findObj_own dict no rfl (by rw [look, hy])) (handed_of ry)
    ⟨v, H1, I1.tok _, ry, q⟩
end
end AP
/-! ### the promises of the draws -/
namespace AP
open PySem PySem.Spec PyProof.Rows L2
theorem rest_of (x : Int) {n : Int} (h : 0 < n) : ∃ r, x % n = r ∧ 0 ≤ r ∧ r < n :=
  ⟨x % n, rfl, Int.emod_nonneg _ (by omega), Int.emod_lt_of_pos _ h⟩
theorem bits_small {b : Int} (h : 0 < b) (hb : b.natAbs < 2 ^ 8999) : (Builtin.Int.intBits b : Int) ≤ 8999 := by
  have := PyProof.Rows.intBits_le hb
  omega
theorem cut_ints (ns : List Int) (lo hi : Option Int) : ∃ ms : List Int, cutV (ns.map V.int) lo hi = ms.map V.int := by
  unfold cutV
  exact ⟨_, by rw [← List.map_drop, ← List.map_take]⟩
theorem pow_a : PowOk 10 18 := ⟨by decide, by decide +kernel⟩
theorem pow_b : PowOk 10 60 := ⟨by decide, by decide +kernel⟩
theorem pow_c : PowOk (10 ^ (60 : Int).toNat) 10 := ⟨by decide, by decide +kernel⟩
theorem pow_d : (0 : Int) < (10 ^ (60 : Int).toNat) ^ (10 : Int).toNat := by decide +kernel
/-- some number below 2 ** 31 -/
def spHash : Sp := fun vs H Q _ => ∃ s i : Int, vs = [.int s, .int i] ∧ 0 ≤ i ∧ i < 2 ^ 60 ∧ ∀ n : Int, 0 ≤ n → n < 2147483648 → Q (.int n) H
/-- a generator of draws: the digits left, the seed, how many were hashed -/
def GenAt (H : Hp) (g : Addr) (x y z : Int) : Prop := H g = some (.lst [.int x, .int y, .int z])
/-- a number below the bound; nothing changes but the generator -/
def spRandom : Sp := fun vs H Q _ => ∃ (g : Addr) (b x y z : Int), vs = [.ref g, .int b] ∧
  (H g = some (.lst [.int x, .int y, .int z]) ∧ 0 ≤ x ∧ 0 ≤ y ∧ 0 ≤ z ∧ z < 2 ^ 50) ∧ 0 < b ∧ b.natAbs < 2 ^ 8999 ∧
  ∀ (n x' z' : Int) (H' : Hp), 0 ≤ n → n < b → (H' g = some (.lst [.int x', .int y, .int z']) ∧ 0 ≤ x' ∧ 0 ≤ y ∧ 0 ≤ z' ∧ z' ≤ z + 300) →
    (∀ a, a ≠ g → H' a = H a) → z ≤ z' → Q (.int n) H'
/-- some number -/
def spCellA (K : PySem.W.Frag) : Sp := fun vs H Q _ => ∃ (a : Addr) (ns : List Int) (i : Nat), vs = [.ref a, .int i] ∧ SqL K H a (ns.map V.int) ∧
  ∀ (n : Int) (H' : Hp), Evl.Ex H H' → Q (.int n) H'
/-- a new generator -/
def spGenerator (K : PySem.W.Frag) : Sp := fun vs H Q _ => ∃ (a : Addr) (ns : List Int) (i : Nat), vs = [.ref a, .int i] ∧ SqL K H a (ns.map V.int) ∧ i ≤ 1000 ∧
  ∀ (p : Addr) (H' : Hp), H p = none → Evl.Ex H H' → (∃ x y z : Int, H' p = some (.lst [.int x, .int y, .int z]) ∧ 0 ≤ x ∧ (0 ≤ y ∧ y < 2147483648) ∧ 0 ≤ z ∧ z ≤ 1000000) → Q (.ref p) H'
end AP

set_option maxHeartbeats 4000000
/-! What evaluates to something of which a thing is told. -/
namespace AP
open PySem PySem.Spec PyProof.Rows L2 Evl
abbrev VP := V → Hp → Prop
/-- what stays when objects come beside -/
def Stays (P : VP) : Prop := ∀ x H H', Ex H H' → P x H → P x H'
/-- the values are told one by one -/
inductive Alls (H : Hp) : List VP → List V → Prop
  | nil : Alls H [] []
  | cons {P : VP} {Ps : List VP} {x : V} {xs : List V} : Stays P → P x H → Alls H Ps xs → Alls H (P :: Ps) (x :: xs)
theorem Alls.ex {H H' : Hp} (e : Ex H H') : ∀ {Ps : List VP} {xs : List V}, Alls H Ps xs → Alls H' Ps xs
  | _, _, .nil => .nil
  | _, _, .cons st h r => .cons st (st _ _ _ e h) (Alls.ex e r)
theorem Alls.app {H : Hp} : ∀ {Ps Qs : List VP} {xs ys : List V}, Alls H Ps xs → Alls H Qs ys → Alls H (Ps ++ Qs) (xs ++ ys)
  | _, _, _, _, .nil, h => h
  | _, _, _, _, .cons st h r, k => .cons st h (Alls.app r k)
theorem Alls.len {H : Hp} : ∀ {Ps : List VP} {xs : List V}, Alls H Ps xs → xs.length = Ps.length
  | _, _, .nil => rfl
  | _, _, .cons _ _ r => congrArg Nat.succ (Alls.len r)
theorem Alls.get {H : Hp} : ∀ {Ps : List VP} {xs : List V}, Alls H Ps xs → ∀ {i : Nat} {x : V}, xs[i]? = some x → ∃ P, Ps[i]? = some P ∧ P x H
  | _, _, .nil, _, _, h => by cases h
  | _, _, .cons _ h r, 0, _, e => by cases e; exact ⟨_, rfl, h⟩
  | _, _, .cons _ h r, i + 1, _, e => Alls.get r (i := i) e

def Evp (te : TE) (σ : L2.St) (H : Hp) (P : VP) : Prop := ∀ H1, Ex H H1 → ∀ Q : VK, (∀ x H2, Ex H1 H2 → P x H2 → Q x H2) → te σ H1 Q
/-- a new list of such values -/
def Elp (te : TE) (σ : L2.St) (H : Hp) (Ps : List VP) : Prop := ∀ H1, Ex H H1 → ∀ Q : VK,
  (∀ p xs H2, H1 p = none → Ex H1 H2 → H2 p = some (.lst xs) → Alls H2 Ps xs → Q (.ref p) H2) → te σ H1 Q
def EvpA (ta : TA) (σ : L2.St) (H : Hp) (Ps : List VP) : Prop := ∀ H1, Ex H H1 → ∀ Q : List V → Hp → Prop, (∀ xs H2, Ex H1 H2 → Alls H2 Ps xs → Q xs H2) → ta σ H1 Q
section
variable {K : PySem.W.Frag} {σ : L2.St} {H H' : Hp} {ta tb te : TE} {P : VP} {Ps Qs : List VP} {v : V} {tr : TA} {D : Ends} {tz : TS}
theorem Evp.of (h : Ev te σ H v) : Evp te σ H fun x _ => x = v := fun H1 e Q q => h H1 e Q fun H2 e2 => q v H2 e2 rfl
theorem evpA_nil : EvpA tNil σ H [] := fun H1 _ Q q => q [] H1 (Ex.refl H1) .nil
theorem evpA_cons (h : Evp te σ H P) (hr : EvpA tr σ H Ps) (st : Stays P) : EvpA (tCons te tr) σ H (P :: Ps) := fun H1 e Q q =>
  h H1 e _ fun x H2 e2 hx => hr H2 (e.trans e2) _ fun xs H3 e3 hs => q _ H3 (e2.trans e3) (.cons st (st _ _ _ e3 hx) hs)
theorem elp_lst (h : EvpA tr σ H Ps) (small : Ps.length ≤ 100000) : Elp (tLst tr) σ H Ps := fun H1 e Q q =>
  h H1 e _ fun xs H2 e2 hs => ⟨sz_of (by rw [hs.len]; exact small), fun p np =>
    q p xs _ (fresh_back e2 np) (e2.trans (Ex.new np)) upd_same (hs.ex (Ex.new np))⟩
/-- a list and a new list, joined -/
theorem elp_cat {l : Addr} {xs : List V} (hl : H l = some (.lst xs)) (hs : Alls H Ps xs) (ha : Ev ta σ H (.ref l)) (hb : Elp tb σ H Qs)
    (small : Ps.length + Qs.length ≤ 100000) : Elp (tOp rCat ta tb) σ H (Ps ++ Qs) := fun H1 e Q q =>
  ha H1 e _ fun H2 e2 => hb H2 (e.trans e2) _ fun p ys H3 np e3 hp hy => by
    have ex := (e.trans e2).trans e3
    refine ⟨l, p, xs, ys, rfl, rfl, ex _ _ hl, hp, sz_of (by rw [hs.len, hy.len]; exact small), fun r nr => ?_⟩
    refine q r _ _ (fresh_back (e2.trans e3) nr) ((e2.trans e3).trans (Ex.new nr)) upd_same ?_
    exact ((hs.ex ex).app hy).ex (Ex.new nr)
theorem q_asgLp {i : Nat} (h : Elp te σ H Ps) (k : ∀ p xs H1, H p = none → Ex H H1 → H1 p = some (.lst xs) → Alls H1 Ps xs → tz D (σ.set i (some (.ref p))) H1) :
    tSeq (tAsg te (gName i)) tz D σ H := h H (Ex.refl H) _ fun p xs H1 np e hp hs => k p xs H1 np e hp hs
theorem s_retLp (h : Elp te σ H Ps) (k : ∀ p xs H1, H p = none → Ex H H1 → H1 p = some (.lst xs) → Alls H1 Ps xs → D.rt (.ref p) H1) : tRet te D σ H :=
  h H (Ex.refl H) _ fun p xs H1 np e hp hs => k p xs H1 np e hp hs
/-- an error made of a value -/
theorem ep_err {C : Addr} (h : Ev te σ H v) : Evp (tErr C te) σ H (IsErr C v) := fun H1 e Q q =>
  h H1 e _ fun H2 e2 a H3 na e3 k => q (.ref a) H3 (e2.trans e3) k
theorem stays_err {C : Addr} : Stays (IsErr C v) := fun _ _ _ e h => h.ex e
/-- a list and a new list of known values, joined -/
theorem el_cat {l : Addr} {xs ys : List V} (hl : H l = some (.lst xs)) (ha : Ev ta σ H (.ref l)) (hb : EvL tb σ H ys) (small : xs.length + ys.length ≤ 100000) :
    EvL (tOp rCat ta tb) σ H (xs ++ ys) := fun H1 e Q q =>
  ha H1 e _ fun H2 e2 => hb H2 (e.trans e2) _ fun p H3 np e3 hp => by
    have ex := (e.trans e2).trans e3
    refine ⟨l, p, xs, ys, rfl, rfl, ex _ _ hl, hp, sz_of small, fun r nr => ?_⟩
    exact q r _ (fresh_back (e2.trans e3) nr) ((e2.trans e3).trans (Ex.new nr)) upd_same
/-! ### isinstance, fields, equality, repr, as what evaluates -/
/-- at a an error of the class at C, whatever it carries -/
def SomeErr (C a : Addr) (H : Hp) : Prop := (∃ d fs, H a = some (exo a C (some d)) ∧ H d = some (exd d fs)) ∨ H a = some (ExO (.ref C) a)
theorem SomeErr.ex {C a : Addr} (e : Ex H H') (h : SomeErr C a H) : SomeErr C a H' := by
  rcases h with ⟨d, fs, h1, h2⟩ | h
  · exact .inl ⟨d, fs, e _ _ h1, e _ _ h2⟩
  · exact .inr (e _ _ h)
theorem rc_isErr {a C : Addr} {c : V} {cv : Value} {b : Bool} (G : ErrK K C) (h : SomeErr C a H) (hc : ∀ u, RelV c u → u = cv)
    (k : PySem.W.kitOne K (.ref C) cv = some b) : RC (rIsErr K) [.ref a, c] H (.bl b) := fun H1 e Q q =>
  ⟨a, C, c, cv, b, rfl, G, h.ex e, hc, k, q H1 (Ex.refl H1)⟩
theorem ev_isErr {a C : Addr} {c : V} {cv : Value} {b : Bool} (G : ErrK K C) (h : SomeErr C a H) (hc : ∀ u, RelV c u → u = cv)
    (k : PySem.W.kitOne K (.ref C) cv = some b) (h1 : Ev ta σ H (.ref a)) (h2 : Ev tb σ H c) : Ev (tCB (rIsErr K) (tCons ta (tCons tb tNil))) σ H (.bl b) :=
  ev_cb (ea_cons h1 (ea_cons h2 ea_nil)) (rc_isErr G h hc k)
theorem ev_errF {a C d : Addr} {f : Str} {fs : List (Str × V)} (G : ErrK K C) (dict : PySem.W.hasDictIn K C = true) (no : PySem.W.findIn K (.ref C) f = some none)
    (h1 : H a = some (exo a C (some d))) (h2 : H d = some (exd d fs)) (l : fs.lookup f = some v) (h : Ev te σ H (.ref a)) : Ev (tErrF K f te) σ H v := fun H1 e Q q =>
  h H1 e _ fun H2 e2 => ⟨a, C, d, fs, v, rfl, G, dict, no, (e.trans e2) _ _ h1, (e.trans e2) _ _ h2, l, q H2 e2⟩
end
/-- a value that shows and that is equal to itself -/
def Fine (K : PySem.W.Frag) (v : V) (H : Hp) : Prop :=
  (∃ d, Dp K H v d ∧ SeqAt.shaped d = true ∧ d.showable = true ∧ d.hasDict = false ∧ d.depth ≤ 60 ∧ d.shown.length ≤ sizeLine) ∨
    ∃ (a : Addr) (z : Str) (n : Int), v = .ref a ∧ H a = some (.dK [(Sum.inr z, .int n)]) ∧ (oneD z n).showable = true ∧ (oneD z n).shown.length ≤ sizeLine
mutual
theorem dp_ex {K : PySem.W.Frag} {H H' : Hp} (e : Ex H H') : ∀ {v : V} {d : PyData}, Dp K H v d → Dp K H' v d
  | _, _, .non => .non
  | _, _, .bl b => .bl b
  | _, _, .int i => .int i
  | _, _, .str x => .str x
  | _, _, .lst h k => .lst (ex_l e h) (dpAll_ex e k)
  | _, _, .tup h k => .tup (ex_t e h) (dpAll_ex e k)
theorem dpAll_ex {K : PySem.W.Frag} {H H' : Hp} (e : Ex H H') : ∀ {vs : List V} {ds : List PyData}, DpAll K H vs ds → DpAll K H' vs ds
  | _, _, .nil => .nil
  | _, _, .cons h k => .cons (dp_ex e h) (dpAll_ex e k)
end
theorem Fine.ex {K : PySem.W.Frag} {v : V} {H H' : Hp} (e : Ex H H') (h : Fine K v H) : Fine K v H' := by
  rcases h with ⟨d, h, r⟩ | ⟨a, z, n, q, h, r⟩
  · exact .inl ⟨d, dp_ex e h, r⟩
  · exact .inr ⟨a, z, n, q, e _ _ h, r⟩
/-- repr of such a value -/
abbrev rRep (K : PySem.W.Frag) : List V → Hp → VK → Prop := fun xs H Q => rRepr K xs H Q ∨ rReprD xs H Q
def shownF (K : PySem.W.Frag) (v : V) (t : Str) (H : Hp) : Prop := ∀ H', Ex H H' → ∀ Q : VK, Q (.str t) H' → rRep K [v] H' Q
theorem Fine.shown {K : PySem.W.Frag} {v : V} {H : Hp} (h : Fine K v H) : ∃ t, shownF K v t H := by
  rcases h with ⟨d, h, s1, s2, s3, s4, s5⟩ | ⟨a, z, n, rfl, h, s1, s2⟩
  · exact ⟨d.shown, fun H' e Q q => .inl ⟨v, d, rfl, dp_ex e h, s2, s3, s4, s5, q⟩⟩
  · exact ⟨(oneD z n).shown, fun H' e Q q => .inr ⟨a, z, n, rfl, e _ _ h, s1, s2, q⟩⟩
/-- == of a value with itself -/
def rEqDict : R2 := fun x y H Q => ∃ a b kvs, x = .ref a ∧ y = .ref b ∧ H a = some (.dK kvs) ∧ H b = some (.dK kvs) ∧ (kvs.map (·.1)).Nodup ∧ (∀ p ∈ kvs, flatB p.2 = true) ∧ Q (.bl true) H
abbrev rSame (K : PySem.W.Frag) : R2 := fun x y H Q => rEqD K x y H Q ∨ rEqDict x y H Q
theorem Fine.same {K : PySem.W.Frag} {v : V} {H : Hp} (h : Fine K v H) : RV (rSame K) v v H (.bl true) := fun H1 e Q q => by
  rcases h with ⟨d, h, s1, _⟩ | ⟨a, z, n, rfl, h, _⟩
  · refine .inl ⟨d, d, dp_ex e h, dp_ex e h, s1, s1, ?_⟩
    rw [SeqAt.eqv_refl d (SeqAt.canLay_of_shaped s1)]
    exact q H1 (Ex.refl H1)
  · exact .inr ⟨a, a, _, rfl, rfl, e _ _ h, e _ _ h, by simp, by simp [flatB], q H1 (Ex.refl H1)⟩

/-! ### loops over enumerate -/
theorem for_enumL {K : PySem.W.Frag} {a : Addr} {xs : List V} {g : TG} {tb : TS} {D : Ends} {σ : L2.St} {H : Hp} (Pv : Nat → L2.St → Hp → Prop) (h0 : Pv 0 σ H)
    (hq : ∀ i σ H, Pv i σ H → SqL K H a xs)
    (hs : ∀ (i : Nat) (x : V) (T : Addr) (σ : L2.St) (H : Hp), xs[i]? = some x → Pv i σ H → H T = none →
      g (.ref T) σ (upd H T (.tup [.int (i : Nat), x])) fun σ2 H2 => tb { D with nx := Pv (i + 1), ct := Pv (i + 1), bk := D.nx } σ2 H2)
    (hd : ∀ σ H, Pv xs.length σ H → D.nx σ H) :
    ∃ W : Nat → Nat → L2.St → Hp → Prop, (∃ m, W 0 m σ H) ∧ ∀ i m σ H, W i m σ H →
      ((Ite K a).stop i H ∧ D.nx σ H) ∨ ((Ite K a).go i H ∧ ∃ N : L2.St → Hp → Prop, (∀ σ' H', N σ' H' → ∃ m', m' < m ∧ W (i + 1) m' σ' H') ∧
        ∀ v H', (Ite K a).yld i H v H' → g v σ H' fun σ2 H2 => tb { D with nx := N, ct := N, bk := D.nx } σ2 H2) := by
  refine ⟨fun i m σ H => m + i = xs.length ∧ Pv i σ H, ⟨xs.length, rfl, h0⟩, ?_⟩
  rintro i m σ H ⟨e, p⟩
  have q := hq i σ H p
  rcases Nat.lt_or_ge i xs.length with lt | ge
  · refine .inr ⟨⟨xs, xs[i], q, List.getElem?_eq_getElem lt⟩, Pv (i + 1), fun σ' H' p' => ⟨m - 1, by omega, by omega, p'⟩, ?_⟩
    rintro v H' ⟨T, x, rfl, nT, rfl, fx⟩
    exact hs i x T σ H (fx xs q) p nT
  · cases (show i = xs.length by omega)
    exact .inl ⟨⟨xs, q, Nat.le_refl _⟩, hd _ _ p⟩
/-! ### an error without an __init__ of its own -/
section
variable {X : Cx} {C : Addr} {x : Str} {p pos : Pos}
theorem pe_exc0 {bmB : List Value} {B newId initId : String} (F : ExcBaseFacts B newId initId bmB) (q : PySem.W.excIn X.K C bmB newId = true) (gC : X.mg x = some (.ref C))
    (kC : PySem.W.keepIn X.K (.ref C) = true) (hg : Gl X x) (hdb : (x == ("__debug__" : Str)) = false := by decide) :
    PE X (.Call (.Name x p) [] [] pos) (fun _ H Q => ∀ a, H a = none → Q (.ref a) (upd H a (ExO (.ref C) a))) := by
  refine ⟨fun pins s σ H Q I h => wpAny_Call_Name_kw (ld_glob I hg gC ?_ hdb)⟩
  refine PySem.W.callWith_K0 I.kIn kC ?_
  show wpAny _ _ (call (.ref C) []) _ _ s
  obtain ⟨bm, N, nm, qn, bs, hdct, sn, sub, ab, col, dd, k0, k1, k2, k3, k5, mN, hC, hN, hni, T⟩ := exc_obj I.kIn q
  refine wpAny_call_exc_subT F T hC hN hni (fun h' a made => ?_) (by decide)
  have na : H a = none := I.hok.gone made.new
  obtain ⟨t, there, _, _⟩ := made.there
  exact ⟨.ref a, upd H a (ExO (.ref C) a), I.laidN made.keeps made.new na (exO_ok there ⟨rfl, rfl⟩ rfl rfl rfl (show 4 < 6 by decide)), rfl, h a na⟩
/-- "ab" * n -/
def rAb : R2 := fun x y H Q => ∃ n : Int, x = .str "ab" ∧ y = .int n ∧ 0 ≤ n ∧ n < 3 ∧ ∀ t : Str, (reprText t).length ≤ sizeLine → SeqAt.shaped (.str t) = true → Q (.str t) H
theorem op_mul_ab : OpR X (binaryOp .Mult) rAb := by
  intro pins s σ H x y v u Q I rx ry h
  obtain ⟨n, rfl, rfl, h0, h3, q⟩ := h
  obtain ⟨t, rfl⟩ := (show ∃ t, v = Value.str "ab" t from rx)
  obtain ⟨t', rfl⟩ := (show ∃ t, u = Value.int n t from ry)
  rcases (show n = 0 ∨ n = 1 ∨ n = 2 by omega) with rfl | rfl | rfl
  · exact PySem.P.mul_str_none (by decide) (by decide) ⟨.str Str.empty, H, I.tok _, ⟨_, rfl⟩, q _ (by decide +kernel) (by decide +kernel)⟩
  · exact PySem.P.mul_str (by decide) (fun _ z => by cases z) (fun _ z => by cases z) ⟨.str "ab", H, I, ⟨t, rfl⟩, q _ (by decide +kernel) (by decide +kernel)⟩
  · exact PySem.P.mul_str (by decide) (fun _ _ => by decide +kernel) (fun _ _ => by decide +kernel) ⟨by decide +kernel, .str _, H, I.tok _, ⟨_, rfl⟩, q _ (by decide +kernel) (by decide +kernel)⟩
end
end AP

set_option maxHeartbeats 4000000
/-! What an expression evaluates to, told by values of Lean's own: the heap stands behind. -/
namespace AP
open PySem PySem.Spec PyProof.Rows L2 Evl

/-! ### the state: what stays (B), the generator of draws, how many draws there were -/
def Gn (g : Addr) (z : Int) (H : Hp) : Prop := ∃ x y : Int, H g = some (.lst [.int x, .int y, .int z]) ∧ 0 ≤ x ∧ 0 ≤ y ∧ y < 2147483648 ∧ 0 ≤ z
structure At (G : Option Addr) (z : Int) (B H : Hp) : Prop where
  ex : Ex B H
  gen : ∀ g, G = some g → B g = none ∧ Gn g z H
structure Nx (G : Option Addr) (c : Nat) (z : Int) (B H : Hp) (z' : Int) (B' H' : Hp) : Prop where
  at_ : At G z' B' H'
  up : Ex B B'
  new : ∀ a o, B' a = some o → B a = some o ∨ H a = none
  lo : z ≤ z'
  hi : z' ≤ z + c
  keep : ∀ a o, G ≠ some a → H a = some o → H' a = some o
section
variable {G : Option Addr} {c c1 c2 : Nat} {z z' z0 z1 z2 : Int} {B B' H H' B0 H0 B1 H1 B2 H2 : Hp}
theorem Nx.refl (s : At G z B H) : Nx G 0 z B H z B H := ⟨s, Ex.refl B, fun _ _ h => .inl h, by omega, by omega, fun _ _ _ h => h⟩
theorem Nx.gone (a : Nx G c z B H z' B' H') (s : At G z B H) {x : Addr} (h : H' x = none) : H x = none := by
  cases e : H x with
  | none => rfl
  | some o =>
    by_cases hg : G = some x
    · obtain ⟨_, _, _, q, _⟩ := a.at_.gen x hg
      rw [q] at h
      cases h
    · rw [a.keep x o hg e] at h
      cases h
theorem Nx.trans (s : At G z0 B0 H0) (a : Nx G c1 z0 B0 H0 z1 B1 H1) (b : Nx G c2 z1 B1 H1 z2 B2 H2) : Nx G (c1 + c2) z0 B0 H0 z2 B2 H2 := by
  refine ⟨b.at_, a.up.trans b.up, fun x o h => ?_, Int.le_trans a.lo b.lo, ?_, fun x o hg h => b.keep x o hg (a.keep x o hg h)⟩
  · rcases b.new x o h with h | h
    · exact a.new x o h
    · exact .inr (a.gone s h)
  · have := a.hi
    have := b.hi
    omega
theorem Nx.le (a : Nx G c1 z B H z' B' H') (h : c1 ≤ c2) : Nx G c2 z B H z' B' H' := ⟨a.at_, a.up, a.new, a.lo, by have := a.hi; omega, a.keep⟩
theorem Nx.alloc {p : Addr} {o : HO} (s : At G z B H) (h : H p = none) : Nx G 0 z B H z (upd B p o) (upd H p o) := by
  have hB : B p = none := by
    cases e : B p with
    | none => rfl
    | some u => rw [s.ex p u e] at h; cases h
  refine ⟨⟨fun a u e => ?_, fun g hg => ?_⟩, Ex.new hB, fun a u e => ?_, by omega, by omega, fun a u _ e => Ex.new h a u e⟩
  · by_cases ha : a = p
    · subst ha
      rw [upd_same] at e ⊢
      exact e
    · rw [upd_ne ha] at e ⊢
      exact s.ex a u e
  · obtain ⟨h1, x, y, q, r⟩ := s.gen g hg
    have ne : g ≠ p := ne_of_none q h
    exact ⟨by rw [upd_ne ne]; exact h1, x, y, by rw [upd_ne ne]; exact q, r⟩
  · by_cases ha : a = p
    · subst ha
      exact .inr h
    · rw [upd_ne ha] at e
      exact .inl e
/-- more in the heap, nothing new that is known -/
theorem Nx.more (s : At G z B H) (e : Ex H H') : Nx G 0 z B H z B H' :=
  ⟨⟨s.ex.trans e, fun g hg => ⟨(s.gen g hg).1, by obtain ⟨_, x, y, q, r⟩ := s.gen g hg; exact ⟨x, y, e _ _ q, r⟩⟩⟩, Ex.refl B, fun _ _ h => .inl h, by omega, by omega, fun a o _ h => e a o h⟩
end

/-! ### values of Lean for values of Python -/
class Py (α : Type) where
  is : α → V → Hp → Prop
  st : ∀ (x : α) (v : V) (B B' : Hp), Ex B B' → is x v B → is x v B'
theorem Py.stays {α : Type} [Py α] (x : α) : Stays (Py.is x) := fun v B B' e h => Py.st x v B B' e h
instance : Py Int := ⟨fun n v _ => v = .int n, fun _ _ _ _ _ h => h⟩
instance : Py Bool := ⟨fun n v _ => v = .bl n, fun _ _ _ _ _ h => h⟩
instance : Py Str := ⟨fun n v _ => v = .str n, fun _ _ _ _ _ h => h⟩
instance : Py Unit := ⟨fun _ v _ => v = .non, fun _ _ _ _ _ h => h⟩
inductive Each {α : Type} [Py α] (B : Hp) : List α → List V → Prop
  | nil : Each B [] []
  | cons {x : α} {v : V} {xs : List α} {vs : List V} : Py.is x v B → Each B xs vs → Each B (x :: xs) (v :: vs)
section
variable {α β : Type} [Py α] [Py β]
theorem Each.ex {B B' : Hp} (e : Ex B B') : ∀ {xs : List α} {vs : List V}, Each B xs vs → Each B' xs vs
  | _, _, .nil => .nil
  | _, _, .cons h r => .cons (Py.st _ _ _ _ e h) (Each.ex e r)
theorem Each.len {B : Hp} : ∀ {xs : List α} {vs : List V}, Each B xs vs → vs.length = xs.length
  | _, _, .nil => rfl
  | _, _, .cons _ r => congrArg Nat.succ (Each.len r)
theorem Each.app {B : Hp} : ∀ {xs ys : List α} {vs ws : List V}, Each B xs vs → Each B ys ws → Each B (xs ++ ys) (vs ++ ws)
  | _, _, _, _, .nil, h => h
  | _, _, _, _, .cons h r, k => .cons h (Each.app r k)
theorem Each.get {B : Hp} : ∀ {xs : List α} {vs : List V}, Each B xs vs → ∀ {i : Nat} {x : α}, xs[i]? = some x → ∃ v, vs[i]? = some v ∧ Py.is x v B
  | _, _, .nil, _, _, h => by cases h
  | _, _, .cons h r, 0, _, e => by cases e; exact ⟨_, rfl, h⟩
  | _, _, .cons _ r, i + 1, _, e => Each.get r (i := i) e
theorem Each.got {B : Hp} : ∀ {xs : List α} {vs : List V}, Each B xs vs → ∀ {i : Nat} {v : V}, vs[i]? = some v → ∃ x, xs[i]? = some x ∧ Py.is x v B
  | _, _, .nil, _, _, h => by cases h
  | _, _, .cons h r, 0, _, e => by cases e; exact ⟨_, rfl, h⟩
  | _, _, .cons _ r, i + 1, _, e => Each.got r (i := i) e
theorem Each.drop {B : Hp} : ∀ (n : Nat) {xs : List α} {vs : List V}, Each B xs vs → Each B (xs.drop n) (vs.drop n)
  | 0, _, _, h => h
  | n + 1, _, _, .nil => .nil
  | n + 1, _, _, .cons _ r => Each.drop n r
theorem Each.take {B : Hp} : ∀ (n : Nat) {xs : List α} {vs : List V}, Each B xs vs → Each B (xs.take n) (vs.take n)
  | 0, _, _, _ => .nil
  | n + 1, _, _, .nil => .nil
  | n + 1, _, _, .cons h r => .cons h (Each.take n r)
theorem Each.snoc {B : Hp} {xs : List α} {vs : List V} {x : α} {v : V} (h : Each B xs vs) (k : Py.is x v B) : Each B (xs ++ [x]) (vs ++ [v]) := h.app (.cons k .nil)
theorem Each.rev {B : Hp} : ∀ {xs : List α} {vs : List V}, Each B xs vs → Each B xs.reverse vs.reverse
  | _, _, .nil => .nil
  | _, _, .cons h r => by
    rw [List.reverse_cons, List.reverse_cons]
    exact (Each.rev r).snoc h
theorem Each.ints {B : Hp} : ∀ {ns : List Int} {vs : List V}, Each B ns vs → vs = ns.map V.int
  | _, _, .nil => rfl
  | _, _, .cons h r => by
    rw [List.map_cons, ← Each.ints r, ← (show _ = V.int _ from h)]
theorem Each.bls {B : Hp} : ∀ {ns : List Bool} {vs : List V}, Each B ns vs → vs = ns.map V.bl
  | _, _, .nil => rfl
  | _, _, .cons h r => by
    rw [List.map_cons, ← Each.bls r, ← (show _ = V.bl _ from h)]
theorem Each.of_ints {B : Hp} : ∀ (ns : List Int), Each B ns (ns.map V.int)
  | [] => .nil
  | _ :: r => .cons rfl (Each.of_ints r)
instance : Py (List α) := ⟨fun xs v B => ∃ p vs, v = .ref p ∧ B p = some (.lst vs) ∧ Each B xs vs, fun _ _ _ _ e ⟨p, vs, h1, h2, h3⟩ => ⟨p, vs, h1, e _ _ h2, h3.ex e⟩⟩
instance : Py (α × β) := ⟨fun x v B => ∃ p a b, v = .ref p ∧ B p = some (.tup [a, b]) ∧ Py.is x.1 a B ∧ Py.is x.2 b B, fun _ _ _ _ e ⟨p, a, b, h1, h2, h3, h4⟩ => ⟨p, a, b, h1, e _ _ h2, Py.st _ _ _ _ e h3, Py.st _ _ _ _ e h4⟩⟩
end
theorem Py.ints {ns : List Int} {v : V} {B : Hp} (h : Py.is ns v B) : ∃ p, v = .ref p ∧ B p = some (.lst (ns.map V.int)) := by
  obtain ⟨p, vs, e1, e2, e3⟩ := h
  rw [e3.ints] at e2
  exact ⟨p, e1, e2⟩
theorem Py.of_ints {ns : List Int} {p : Addr} {B : Hp} (h : B p = some (.lst (ns.map V.int))) : Py.is ns (.ref p) B := ⟨p, _, rfl, h, .of_ints ns⟩
/-- the generator -/
structure GenR where
  at_ : Addr
instance : Py GenR := ⟨fun r v _ => v = .ref r.at_, fun _ _ _ _ _ h => h⟩

/-! ### what the slots hold -/
abbrev Ctx := List (Option VP)
structure Slo (B : Hp) (σ : L2.St) (Γ : Ctx) : Prop where
  len : σ.length = Γ.length
  all : ∀ (i : Nat) (P : VP), Γ[i]? = some (some P) → ∃ v, σ[i]? = some (some v) ∧ Stays P ∧ P v B
section
variable {B B' : Hp} {σ : L2.St} {Γ : Ctx} {P : VP} {v : V} {i : Nat}
theorem Slo.up (e : Ex B B') (h : Slo B σ Γ) : Slo B' σ Γ := ⟨h.len, fun i P q => by
  obtain ⟨v, h1, h2, h3⟩ := h.all i P q
  exact ⟨v, h1, h2, h2 _ _ _ e h3⟩⟩
theorem Slo.set (h : Slo B σ Γ) (st : Stays P) (p : P v B) : Slo B (σ.set i (some v)) (Γ.set i (some P)) := ⟨by rw [List.length_set, List.length_set, h.len], fun j R q => by
  by_cases e : i = j
  · subst e
    by_cases lt : i < Γ.length
    · rw [List.getElem?_set_self lt] at q
      cases q
      exact ⟨v, List.getElem?_set_self (by rw [h.len]; exact lt), st, p⟩
    · rw [List.getElem?_eq_none (by rw [List.length_set]; omega)] at q
      cases q
  · rw [List.getElem?_set_ne e] at q
    obtain ⟨w, h1, h2⟩ := h.all j R q
    exact ⟨w, by rw [List.getElem?_set_ne e]; exact h1, h2⟩⟩
theorem Slo.put {α : Type} [Py α] {x : α} (h : Slo B σ Γ) (p : Py.is x v B) : Slo B (σ.set i (some v)) (Γ.set i (some (Py.is x))) := h.set (Py.stays x) p
def wipeC (Γ : Ctx) : List Nat → Ctx
  | [] => Γ
  | v :: vs => (wipeC Γ vs).set v none
theorem Slo.none (h : Slo B σ Γ) {o : Option V} : Slo B (σ.set i o) (Γ.set i Option.none) := ⟨by rw [List.length_set, List.length_set, h.len], fun j R q => by
  by_cases e : i = j
  · subst e
    by_cases lt : i < Γ.length
    · rw [List.getElem?_set_self lt] at q
      cases q
    · rw [List.getElem?_eq_none (by rw [List.length_set]; omega)] at q
      cases q
  · rw [List.getElem?_set_ne e] at q
    obtain ⟨w, h1, h2⟩ := h.all j R q
    exact ⟨w, by rw [List.getElem?_set_ne e]; exact h1, h2⟩⟩
theorem Slo.wipe (h : Slo B σ Γ) : ∀ vs : List Nat, Slo B (L2.wipe σ vs) (wipeC Γ vs)
  | [] => h
  | v :: vs => (Slo.wipe h vs).none
theorem Alls.stays {H : Hp} : ∀ {Ps : List VP} {xs : List V}, Alls H Ps xs → ∀ {i : Nat} {P : VP}, Ps[i]? = some P → ∃ v, xs[i]? = some v ∧ Stays P ∧ P v H
  | _, _, .nil, _, _, h => by cases h
  | _, _, .cons st h r, 0, _, e => by cases e; exact ⟨_, rfl, st, h⟩
  | _, _, .cons _ h r, i + 1, _, e => Alls.stays r (i := i) e
def ctx0 (n : Nat) (Ps : List VP) : Ctx := Ps.map some ++ List.replicate (n - Ps.length) Option.none
theorem Slo.start {N : List Str} {vs : List V} {Ps : List VP} (h : Alls B Ps vs) : Slo B (L2.start N vs) (ctx0 N.length Ps) := by
  have hl := h.len
  refine ⟨?_, fun i P q => ?_⟩
  · unfold L2.start ctx0
    simp [hl]
  · unfold ctx0 at q
    unfold L2.start
    by_cases lt : i < Ps.length
    · rw [List.getElem?_append_left (by rw [List.length_map]; exact lt), List.getElem?_map] at q
      cases e : Ps[i]? with
      | none => rw [e] at q; cases q
      | some R =>
        rw [e] at q
        cases q
        obtain ⟨v, h1, h2⟩ := h.stays e
        exact ⟨v, by rw [List.getElem?_append_left (by rw [List.length_map, hl]; exact lt), List.getElem?_map, h1] <;> rfl, h2⟩
    · rw [List.getElem?_append_right (by rw [List.length_map]; omega)] at q
      rw [List.getElem?_replicate] at q
      split at q <;> cases q
end

/-! ### the judgements -/
def Ty (G : Option Addr) (c : Nat) (te : TE) (Γ : Ctx) {α : Type} [Py α] (A : α → Prop) : Prop :=
  ∀ z B σ H, Slo B σ Γ → At G z B H → z + c ≤ 2 ^ 50 → ∀ Q : VK, (∀ x v z' B' H', A x → Nx G c z B H z' B' H' → Py.is x v B' → Q v H') → te σ H Q
def TyT (G : Option Addr) (c : Nat) (tt : TT) (Γ : Ctx) (A : Bool → Prop) : Prop :=
  ∀ z B σ H, Slo B σ Γ → At G z B H → z + c ≤ 2 ^ 50 → ∀ Q : Bool → Hp → Prop, (∀ b z' B' H', A b → Nx G c z B H z' B' H' → Q b H') → tt σ H Q
def TyA (G : Option Addr) (c : Nat) (ta : TA) (Γ : Ctx) (Ps : List VP) : Prop :=
  ∀ z B σ H, Slo B σ Γ → At G z B H → z + c ≤ 2 ^ 50 → ∀ Q : List V → Hp → Prop, (∀ vs z' B' H', Alls B' Ps vs → Nx G c z B H z' B' H' → Q vs H') → ta σ H Q
/-- some value of these -/
def isA {α : Type} [Py α] (A : α → Prop) : VP := fun v B => ∃ x, A x ∧ Py.is x v B
theorem isA.stays {α : Type} [Py α] (A : α → Prop) : Stays (isA A) := fun _ _ _ e ⟨x, h1, h2⟩ => ⟨x, h1, Py.st _ _ _ _ e h2⟩
/-- a two-place operation on values -/
def Rv (G : Option Addr) (r : R2) (v w : V) (B : Hp) {α : Type} [Py α] (A : α → Prop) : Prop :=
  ∀ z B' H, Ex B B' → At G z B' H → ∀ Q : VK, (∀ x u z' B'' H', A x → Nx G 0 z B' H z' B'' H' → Py.is x u B'' → Q u H') → r v w H Q
def Ru (G : Option Addr) (r : V → Hp → VK → Prop) (v : V) (B : Hp) {α : Type} [Py α] (A : α → Prop) : Prop :=
  ∀ z B' H, Ex B B' → At G z B' H → ∀ Q : VK, (∀ x u z' B'' H', A x → Nx G 0 z B' H z' B'' H' → Py.is x u B'' → Q u H') → r v H Q
def Rc (G : Option Addr) (r : List V → Hp → VK → Prop) (vs : List V) (B : Hp) {α : Type} [Py α] (A : α → Prop) : Prop :=
  ∀ z B' H, Ex B B' → At G z B' H → ∀ Q : VK, (∀ x u z' B'' H', A x → Nx G 0 z B' H z' B'' H' → Py.is x u B'' → Q u H') → r vs H Q
section
variable {G : Option Addr} {c c1 c2 c3 : Nat} {te ta tb tx : TE} {tt tu : TT} {Γ : Ctx} {α β γ : Type} [Py α] [Py β] [Py γ] {A A' : α → Prop} {A1 : β → Prop} {A2 : γ → Prop} {Ps : List VP} {tr : TA}
theorem Ty.imp (h : Ty G c te Γ A) (i : ∀ x, A x → A' x) : Ty G c te Γ A' := fun z B σ H en s hz Q q => h z B σ H en s hz Q fun x v z' B' H' a => q x v z' B' H' (i x a)
theorem Ty.to {x y : α} (h : Ty G c te Γ (· = x)) (e : x = y) : Ty G c te Γ (· = y) := e ▸ h
theorem TyT.to {x y : Bool} (h : TyT G c tt Γ (· = x)) (e : x = y) : TyT G c tt Γ (· = y) := e ▸ h
theorem TyT.imp {A A' : Bool → Prop} (h : TyT G c tt Γ A) (i : ∀ x, A x → A' x) : TyT G c tt Γ A' := fun z B σ H en s hz Q q => h z B σ H en s hz Q fun x z' B' H' a => q x z' B' H' (i x a)
theorem Ty.le (h : Ty G c1 te Γ A) (i : c1 ≤ c2) : Ty G c2 te Γ A := fun z B σ H en s hz Q q => h z B σ H en s (by omega) Q fun x v z' B' H' a n => q x v z' B' H' a (n.le i)
theorem TyT.le {A : Bool → Prop} (h : TyT G c1 tt Γ A) (i : c1 ≤ c2) : TyT G c2 tt Γ A := fun z B σ H en s hz Q q => h z B σ H en s (by omega) Q fun x z' B' H' a n => q x z' B' H' a (n.le i)
theorem ty_var {i : Nat} {x : α} (e : Γ[i]? = some (some (Py.is x))) : Ty G 0 (tVar i) Γ (· = x) := fun z B σ H en s _ Q q => by
  obtain ⟨v, h1, _, h2⟩ := en.all i _ e
  exact ⟨v, h1, q x v z B H rfl (.refl s) h2⟩
theorem ty_i {n : Int} : Ty G 0 (tC (.int n)) Γ (· = n) := fun z B σ H en s _ Q q => q n _ z B H rfl (.refl s) rfl
theorem ty_b {n : Bool} : Ty G 0 (tC (.bl n)) Γ (· = n) := fun z B σ H en s _ Q q => q n _ z B H rfl (.refl s) rfl
theorem ty_n : Ty G 0 (tC .non) Γ (· = ()) := fun z B σ H en s _ Q q => q () _ z B H rfl (.refl s) rfl
theorem ty_s {n : Str} : Ty G 0 (tC (.str n)) Γ (· = n) := fun z B σ H en s _ Q q => q n _ z B H rfl (.refl s) rfl
theorem ty_op {r : R2} (ha : Ty G c1 ta Γ A) (hb : Ty G c2 tb Γ A1) (hr : ∀ x y v w B, A x → A1 y → Py.is x v B → Py.is y w B → Rv G r v w B A2) : Ty G (c1 + c2) (tOp r ta tb) Γ A2 := fun z B σ H en s hz Q q => by
  refine ha z B σ H en s (by omega) _ fun x v z1 B1 H1 ax n1 hv => ?_
  refine hb z1 B1 σ H1 (en.up n1.up) n1.at_ (by have := n1.hi; omega) _ fun y w z2 B2 H2 ay n2 hw => ?_
  refine hr x y v w B2 ax ay (Py.st _ _ _ _ n2.up hv) hw z2 B2 H2 (Ex.refl _) n2.at_ _ fun u m z3 B3 H3 au n3 hm => ?_
  exact q u m z3 B3 H3 au (((n1.trans s n2).trans s n3).le (by omega)) hm
theorem ty_un {r : V → Hp → VK → Prop} (ha : Ty G c ta Γ A) (hr : ∀ x v B, A x → Py.is x v B → Ru G r v B A1) : Ty G c (tUn r ta) Γ A1 := fun z B σ H en s hz Q q => by
  refine ha z B σ H en s hz _ fun x v z1 B1 H1 ax n1 hv => ?_
  refine hr x v B1 ax hv z1 B1 H1 (Ex.refl _) n1.at_ _ fun u m z3 B3 H3 au n3 hm => ?_
  exact q u m z3 B3 H3 au ((n1.trans s n3).le (by omega)) hm
theorem ta_nil : TyA G 0 tNil Γ [] := fun z B σ H en s _ Q q => q [] z B H .nil (.refl s)
theorem ta_consN (h : Ty G c1 te Γ A) (hr : TyA G c2 tr Γ Ps) : TyA G (c1 + c2) (tCons te tr) Γ (isA A :: Ps) := fun z B σ H en s hz Q q => by
  refine h z B σ H en s (by omega) _ fun x v z1 B1 H1 ax n1 hv => ?_
  refine hr z1 B1 σ H1 (en.up n1.up) n1.at_ (by have := n1.hi; omega) _ fun vs z2 B2 H2 al n2 => ?_
  exact q _ z2 B2 H2 (.cons (isA.stays A) ⟨x, ax, Py.st _ _ _ _ n2.up hv⟩ al) (n1.trans s n2)
theorem ta_cons {x : α} (h : Ty G c1 te Γ (· = x)) (hr : TyA G c2 tr Γ Ps) : TyA G (c1 + c2) (tCons te tr) Γ (Py.is x :: Ps) := fun z B σ H en s hz Q q => by
  refine h z B σ H en s (by omega) _ fun y v z1 B1 H1 ax n1 hv => ?_
  subst ax
  refine hr z1 B1 σ H1 (en.up n1.up) n1.at_ (by have := n1.hi; omega) _ fun vs z2 B2 H2 al n2 => ?_
  exact q _ z2 B2 H2 (.cons (Py.stays _) (Py.st _ _ _ _ n2.up hv) al) (n1.trans s n2)
theorem ty_cb {r : List V → Hp → VK → Prop} (ha : TyA G c tr Γ Ps) (hr : ∀ vs B, Alls B Ps vs → Rc G r vs B A) : Ty G c (tCB r tr) Γ A := fun z B σ H en s hz Q q => by
  refine ha z B σ H en s hz _ fun vs z1 B1 H1 al n1 => ?_
  refine hr vs B1 al z1 B1 H1 (Ex.refl _) n1.at_ _ fun u m z3 B3 H3 au n3 hm => ?_
  exact q u m z3 B3 H3 au ((n1.trans s n3).le (by omega)) hm
/-! tests -/
theorem tt_test {A : Bool → Prop} (h : Ty G c te Γ A) : TyT G c (tTest te) Γ A := fun z B σ H en s hz Q q => h z B σ H en s hz _ fun x v z' B' H' ax n hv => ⟨x, hv, q x z' B' H' ax n⟩
theorem tt_B {A : Bool → Prop} (h : Ty G c te Γ A) : TyT G c (tB te) Γ A := fun z B σ H en s hz Q q => h z B σ H en s hz _ fun x v z' B' H' ax n hv => ⟨x, hv, q x z' B' H' ax n⟩
theorem tt_not {A : Bool → Prop} (h : TyT G c tt Γ A) : TyT G c (tNot tt) Γ (fun b => A (!b)) := fun z B σ H en s hz Q q => h z B σ H en s hz _ fun x z' B' H' ax n => q (!x) z' B' H' (by show A (!!x); rw [Bool.not_not]; exact ax) n
theorem tt_notD {b : Bool} (h : TyT G c tt Γ (· = b)) : TyT G c (tNot tt) Γ (· = !b) := (tt_not h).imp fun x e => by rw [← e, Bool.not_not]
theorem tt_yes : TyT G 0 tYes Γ (· = true) := fun z B σ H en s _ Q q => q true z B H rfl (.refl s)
theorem tt_and {a b : Bool} (h1 : TyT G c1 tt Γ (· = a)) (h2 : a = true → TyT G c2 tu Γ (· = b)) : TyT G (c1 + c2) (tAnd tt tu) Γ (· = (a && b)) := fun z B σ H en s hz Q q => by
  refine h1 z B σ H en s (by omega) _ fun x z1 B1 H1 ax n1 => ?_
  subst ax
  cases x with
  | true =>
    show tu σ H1 Q
    refine h2 rfl z1 B1 σ H1 (en.up n1.up) n1.at_ (by have := n1.hi; omega) _ fun y z2 B2 H2 ay n2 => ?_
    exact q y z2 B2 H2 ay (n1.trans s n2)
  | false =>
    show Q false H1
    exact q false z1 B1 H1 rfl (n1.le (by omega))
theorem tt_or {a b : Bool} (h1 : TyT G c1 tt Γ (· = a)) (h2 : a = false → TyT G c2 tu Γ (· = b)) : TyT G (c1 + c2) (tOr tt tu) Γ (· = (a || b)) := fun z B σ H en s hz Q q => by
  refine h1 z B σ H en s (by omega) _ fun x z1 B1 H1 ax n1 => ?_
  subst ax
  cases x with
  | false =>
    show tu σ H1 Q
    refine h2 rfl z1 B1 σ H1 (en.up n1.up) n1.at_ (by have := n1.hi; omega) _ fun y z2 B2 H2 ay n2 => ?_
    exact q y z2 B2 H2 ay (n1.trans s n2)
  | true =>
    show Q true H1
    exact q true z1 B1 H1 rfl (n1.le (by omega))
theorem ty_andV {a b : Bool} (h1 : Ty G c1 ta Γ (· = a)) (h2 : a = true → Ty G c2 tb Γ (· = b)) : Ty G (c1 + c2) (tAndV ta tb) Γ (· = (a && b)) := fun z B σ H en s hz Q q => by
  refine h1 z B σ H en s (by omega) _ fun x v z1 B1 H1 ax n1 hv => ?_
  subst ax
  refine ⟨x, hv, ?_⟩
  cases x with
  | true =>
    show tb σ H1 Q
    refine h2 rfl z1 B1 σ H1 (en.up n1.up) n1.at_ (by have := n1.hi; omega) _ fun y w z2 B2 H2 ay n2 hw => ?_
    exact q y w z2 B2 H2 ay (n1.trans s n2) hw
  | false =>
    show Q (.bl false) H1
    exact q false _ z1 B1 H1 rfl (n1.le (by omega)) rfl
theorem ty_orV {a b : Bool} (h1 : Ty G c1 ta Γ (· = a)) (h2 : a = false → Ty G c2 tb Γ (· = b)) : Ty G (c1 + c2) (tOrV ta tb) Γ (· = (a || b)) := fun z B σ H en s hz Q q => by
  refine h1 z B σ H en s (by omega) _ fun x v z1 B1 H1 ax n1 hv => ?_
  subst ax
  refine ⟨x, hv, ?_⟩
  cases x with
  | false =>
    show tb σ H1 Q
    refine h2 rfl z1 B1 σ H1 (en.up n1.up) n1.at_ (by have := n1.hi; omega) _ fun y w z2 B2 H2 ay n2 hw => ?_
    exact q y w z2 B2 H2 ay (n1.trans s n2) hw
  | true =>
    show Q (.bl true) H1
    exact q true _ z1 B1 H1 rfl (n1.le (by omega)) rfl
theorem ty_notV {a : Bool} (h1 : Ty G c ta Γ (· = a)) : Ty G c (tNotV ta) Γ (· = !a) := fun z B σ H en s hz Q q =>
  h1 z B σ H en s hz _ fun x v z1 B1 H1 ax n1 hv => ⟨x, hv, q (!x) _ z1 B1 H1 (by rw [ax]) n1 rfl⟩
theorem ty_if {b : Bool} (h : TyT G c1 tt Γ (· = b)) (h1 : b = true → Ty G c2 ta Γ A) (h2 : b = false → Ty G c2 tb Γ A) : Ty G (c1 + c2) (tIf tt ta tb) Γ A := fun z B σ H en s hz Q q => by
  refine h z B σ H en s (by omega) _ fun x z1 B1 H1 ax n1 => ?_
  subst ax
  cases x with
  | true =>
    show ta σ H1 Q
    refine h1 rfl z1 B1 σ H1 (en.up n1.up) n1.at_ (by have := n1.hi; omega) _ fun y w z2 B2 H2 ay n2 hw => ?_
    exact q y w z2 B2 H2 ay (n1.trans s n2) hw
  | false =>
    show tb σ H1 Q
    refine h2 rfl z1 B1 σ H1 (en.up n1.up) n1.at_ (by have := n1.hi; omega) _ fun y w z2 B2 H2 ay n2 hw => ?_
    exact q y w z2 B2 H2 ay (n1.trans s n2) hw
end
end AP

set_option maxHeartbeats 4000000
/-! The rules of W1's judgements for the built-in operations. -/
namespace AP
open PySem PySem.Spec PyProof.Rows L2 Evl
section
variable {K : PySem.W.Frag} {G : Option Addr} {c c1 c2 c3 : Nat} {te ta tb tx : TE} {tt tu : TT} {Γ : Ctx} {α β γ : Type} [Py α] [Py β] [Py γ] {A A' : α → Prop} {A1 : β → Prop} {A2 : γ → Prop} {Ps : List VP} {tr : TA} {i j : Int} {B B' H : Hp} {v w : V}
/-- the same value told otherwise -/
theorem Ty.cast {x : α} {y : β} (h : Ty G c te Γ (· = x)) (k : ∀ v B, Py.is x v B → Py.is y v B) : Ty G c te Γ (· = y) := fun z B σ H en s hz Q q =>
  h z B σ H en s hz Q fun x' v z' B' H' a n hv => q y v z' B' H' rfl n (k v B' (a ▸ hv))
theorem Ty.castN {A : α → Prop} {A1 : β → Prop} (h : Ty G c te Γ A) (k : ∀ x v B, A x → Py.is x v B → ∃ y, A1 y ∧ Py.is y v B) : Ty G c te Γ A1 := fun z B σ H en s hz Q q =>
  h z B σ H en s hz Q fun x' v z' B' H' a n hv => by
    obtain ⟨y, h1, h2⟩ := k x' v B' a hv
    exact q y v z' B' H' h1 n h2
/-! ### ints -/
theorem ty_I0 {f : Int → Int → Int} (ha : Ty G c1 ta Γ (· = i)) (hb : Ty G c2 tb Γ (· = j)) : Ty G (c1 + c2) (tOp (rI0 fun a b => .int (f a b)) ta tb) Γ (· = f i j) :=
  ty_op ha hb fun x y v w B ex ey hv hw z B' H e s Q q => ⟨x, y, hv, hw, q _ _ z B' H (by rw [ex, ey]) (.refl s) rfl⟩
theorem ty_I0N {f : Int → Int → Int} {A A' : Int → Prop} (ha : Ty G c1 ta Γ A) (hb : Ty G c2 tb Γ A') : Ty G (c1 + c2) (tOp (rI0 fun a b => .int (f a b)) ta tb) Γ (fun n => ∃ i j, A i ∧ A' j ∧ n = f i j) :=
  ty_op ha hb fun x y v w B ex ey hv hw z B' H e s Q q => ⟨x, y, hv, hw, q _ _ z B' H ⟨x, y, ex, ey, rfl⟩ (.refl s) rfl⟩
theorem ty_I {C : Int → Int → Prop} {f : Int → Int → Int} (ha : Ty G c1 ta Γ (· = i)) (hb : Ty G c2 tb Γ (· = j)) (hc : C i j) : Ty G (c1 + c2) (tOp (rI C fun a b => .int (f a b)) ta tb) Γ (· = f i j) :=
  ty_op ha hb fun x y v w B ex ey hv hw z B' H e s Q q => ⟨x, y, hv, hw, by rw [ex, ey]; exact hc, q _ _ z B' H (by rw [ex, ey]) (.refl s) rfl⟩
theorem ty_IN {C : Int → Int → Prop} {f : Int → Int → Int} {A A' : Int → Prop} (ha : Ty G c1 ta Γ A) (hb : Ty G c2 tb Γ A') (hc : ∀ i j, A i → A' j → C i j) : Ty G (c1 + c2) (tOp (rI C fun a b => .int (f a b)) ta tb) Γ (fun n => ∃ i j, A i ∧ A' j ∧ n = f i j) :=
  ty_op ha hb fun x y v w B ex ey hv hw z B' H e s Q q => ⟨x, y, hv, hw, hc x y ex ey, q _ _ z B' H ⟨x, y, ex, ey, rfl⟩ (.refl s) rfl⟩
theorem ty_B0 {p : Int → Int → Bool} (ha : Ty G c1 ta Γ (· = i)) (hb : Ty G c2 tb Γ (· = j)) : Ty G (c1 + c2) (tOp (rI0 fun a b => .bl (p a b)) ta tb) Γ (· = p i j) :=
  ty_op ha hb fun x y v w B ex ey hv hw z B' H e s Q q => ⟨x, y, hv, hw, q _ _ z B' H (by rw [ex, ey]) (.refl s) rfl⟩
theorem ty_B0N {p : Int → Int → Bool} {A A' : Int → Prop} (ha : Ty G c1 ta Γ A) (hb : Ty G c2 tb Γ A') : Ty G (c1 + c2) (tOp (rI0 fun a b => .bl (p a b)) ta tb) Γ (fun b => ∃ i j, A i ∧ A' j ∧ b = p i j) :=
  ty_op ha hb fun x y v w B ex ey hv hw z B' H e s Q q => ⟨x, y, hv, hw, q _ _ z B' H ⟨x, y, ex, ey, rfl⟩ (.refl s) rfl⟩
theorem dec_int' (i j : Int) : decide (V.int i = V.int j) = decide (i = j) := by
  by_cases h : i = j
  · rw [decide_eq_true h, decide_eq_true (congrArg V.int h)]
  · rw [decide_eq_false h, decide_eq_false fun z => h (by injection z)]
theorem dec_bl' (i j : Bool) : decide (V.bl i = V.bl j) = decide (i = j) := by
  by_cases h : i = j
  · rw [decide_eq_true h, decide_eq_true (congrArg V.bl h)]
  · rw [decide_eq_false h, decide_eq_false fun z => h (by injection z)]
theorem ty_eqI (ha : Ty G c1 ta Γ (· = i)) (hb : Ty G c2 tb Γ (· = j)) : Ty G (c1 + c2) (tOp rEq ta tb) Γ (· = decide (i = j)) :=
  ty_op ha hb fun x y v w B ex ey hv hw z B' H e s Q q => by
    subst ex ey
    cases (show v = .int x from hv)
    cases (show w = .int y from hw)
    exact ⟨rfl, q _ _ z B' H rfl (.refl s) (congrArg V.bl (dec_int' x y))⟩
theorem ty_neI (ha : Ty G c1 ta Γ (· = i)) (hb : Ty G c2 tb Γ (· = j)) : Ty G (c1 + c2) (tOp rNe ta tb) Γ (· = !decide (i = j)) :=
  ty_op ha hb fun x y v w B ex ey hv hw z B' H e s Q q => by
    subst ex ey
    cases (show v = .int x from hv)
    cases (show w = .int y from hw)
    exact ⟨rfl, q _ _ z B' H rfl (.refl s) (congrArg (fun b => V.bl !b) (dec_int' x y))⟩
theorem ty_eqIN {A A' : Int → Prop} (ha : Ty G c1 ta Γ A) (hb : Ty G c2 tb Γ A') : Ty G (c1 + c2) (tOp rEq ta tb) Γ (fun b => ∃ i j, A i ∧ A' j ∧ b = decide (i = j)) :=
  ty_op ha hb fun x y v w B ex ey hv hw z B' H e s Q q => by
    cases (show v = .int x from hv)
    cases (show w = .int y from hw)
    exact ⟨rfl, q _ _ z B' H ⟨x, y, ex, ey, rfl⟩ (.refl s) (congrArg V.bl (dec_int' x y))⟩
theorem ty_eqB {a b : Bool} (ha : Ty G c1 ta Γ (· = a)) (hb : Ty G c2 tb Γ (· = b)) : Ty G (c1 + c2) (tOp rEq ta tb) Γ (· = decide (a = b)) :=
  ty_op ha hb fun x y v w B ex ey hv hw z B' H e s Q q => by
    subst ex ey
    cases (show v = .bl x from hv)
    cases (show w = .bl y from hw)
    exact ⟨rfl, q _ _ z B' H rfl (.refl s) (congrArg V.bl (dec_bl' x y))⟩
theorem ty_eqS {a b : Str} (ha : Ty G c1 ta Γ (· = a)) (hb : Ty G c2 tb Γ (· = b)) : Ty G (c1 + c2) (tOp rEq ta tb) Γ (· = decide (a = b)) :=
  ty_op ha hb fun x y v w B ex ey hv hw z B' H e s Q q => by
    subst ex ey
    cases (show v = .str x from hv)
    cases (show w = .str y from hw)
    refine ⟨rfl, q _ _ z B' H rfl (.refl s) (congrArg V.bl ?_)⟩
    by_cases h : x = y
    · rw [decide_eq_true h, decide_eq_true (congrArg V.str h)]
    · rw [decide_eq_false h, decide_eq_false fun z => h (by injection z)]
theorem ty_neS {a b : Str} (ha : Ty G c1 ta Γ (· = a)) (hb : Ty G c2 tb Γ (· = b)) : Ty G (c1 + c2) (tOp rNe ta tb) Γ (· = !decide (a = b)) :=
  ty_op ha hb fun x y v w B ex ey hv hw z B' H e s Q q => by
    subst ex ey
    cases (show v = .str x from hv)
    cases (show w = .str y from hw)
    refine ⟨rfl, q _ _ z B' H rfl (.refl s) (congrArg (fun b => V.bl !b) ?_)⟩
    by_cases h : x = y
    · rw [decide_eq_true h, decide_eq_true (congrArg V.str h)]
    · rw [decide_eq_false h, decide_eq_false fun z => h (by injection z)]
theorem ty_neg {i : Int} (ha : Ty G c ta Γ (· = i)) : Ty G c (tUn (rU fun i => .int (-i)) ta) Γ (· = -i) :=
  ty_un ha fun x v B ex hv z B' H e s Q q => ⟨x, hv, q _ _ z B' H (by rw [ex]) (.refl s) rfl⟩
theorem ty_bits (h : Ty G c te Γ (· = i)) : Ty G c (tBits te) Γ (· = ((Builtin.Int.intBits i : Nat) : Int)) := fun z B σ H en s hz Q q =>
  h z B σ H en s hz _ fun x v z' B' H' ex n hv => ⟨x, hv, q _ _ z' B' H' (by rw [ex]) n rfl⟩
/-- is None -/
abbrev rIsN0 : R2 := fun x y H Q => y = .non ∧ Q (.bl (decide (x = .non))) H
theorem ty_isN {b : Bool} {x : α} (ha : Ty G c1 ta Γ (· = x)) (hx : ∀ v B, Py.is x v B → decide (v = .non) = b) : Ty G (c1 + 0) (tOp rIsN0 ta (tC .non)) Γ (· = b) :=
  ty_op ha ty_n fun x' y v w B ex ey hv hw z B' H e s Q q => ⟨hw, q _ _ z B' H rfl (.refl s) (congrArg V.bl (hx v B (ex ▸ hv)))⟩
theorem ty_isB {a b : Bool} (ha : Ty G c1 ta Γ (· = a)) (hb : Ty G c2 tb Γ (· = b)) : Ty G (c1 + c2) (tOp rIsB ta tb) Γ (· = decide (a = b)) :=
  ty_op ha hb fun x y v w B ex ey hv hw z B' H e s Q q => ⟨x, y, hv, hw, q _ _ z B' H (by rw [ex, ey]) (.refl s) rfl⟩
/-! chains -/
theorem ty_chain {p p' : Int → Int → Bool} {k : Int} {tc : TE} (ha : Ty G c1 ta Γ (· = i)) (hb : Ty G c2 tb Γ (· = j)) (hc : Ty G c3 tc Γ (· = k)) :
    Ty G (c1 + c2 + c3) (tChain (rI0 fun a b => .bl (p a b)) (rI0 fun a b => .bl (p' a b)) ta tb tc) Γ (· = (p i j && p' j k)) := fun z B σ H en s hz Q q => by
  refine ha z B σ H en s (by omega) _ fun x v z1 B1 H1 ex n1 hv => ?_
  refine hb z1 B1 σ H1 (en.up n1.up) n1.at_ (by have := n1.hi; omega) _ fun y w z2 B2 H2 ey n2 hw => ?_
  subst ex ey
  refine ⟨x, y, hv, hw, p x y, rfl, ?_⟩
  cases e : p x y with
  | true =>
    refine hc z2 B2 σ H2 ((en.up n1.up).up n2.up) n2.at_ (by have := n1.hi; have := n2.hi; omega) _ fun u m z3 B3 H3 eu n3 hm => ?_
    subst eu
    exact ⟨y, u, hw, hm, q _ _ z3 B3 H3 rfl ((n1.trans s n2).trans s n3) (by show V.bl _ = V.bl _; rw [e] <;> rfl)⟩
  | false => exact q _ _ z2 B2 H2 rfl ((n1.trans s n2).le (by omega)) (by show V.bl _ = V.bl _; rw [e] <;> rfl)
/-! ### lists -/
theorem ty_len {xs : List α} (h : Ty G c ta Γ (· = xs)) : Ty G (c + 0) (tCB (rLenS K) (tCons ta tNil)) Γ (· = (xs.length : Int)) :=
  ty_cb (ta_cons h ta_nil) fun vs B al z B' H e s Q q => by
    cases al with
    | cons _ hx r =>
      cases r
      obtain ⟨p, us, rfl, h2, h3⟩ := hx
      refine ⟨p, us, rfl, Or.inl (sq_of (s.ex _ _ (e _ _ h2))), q _ _ z B' H rfl (.refl s) ?_⟩
      show V.int _ = V.int _
      rw [h3.len]
theorem Each.at {B : Hp} {xs : List α} {vs : List V} (h : Each B xs vs) {i : Int} {x : α} (e : atI xs i = some x) : ∃ v, atI vs i = some v ∧ Py.is x v B := by
  unfold atI at e ⊢
  rw [h.len]
  cases q : ixN xs.length i with
  | none => rw [q] at e; cases e
  | some j =>
    rw [q] at e
    exact h.get (i := j) e
theorem ty_ixN {A : List α → Prop} {A' : Int → Prop} {A2 : α → Prop} (ha : Ty G c1 ta Γ A) (hb : Ty G c2 tb Γ A') (hx : ∀ xs i, A xs → A' i → ∃ x, atI xs i = some x ∧ A2 x) : Ty G (c1 + c2) (tOp (rIxL K) ta tb) Γ A2 :=
  ty_op ha hb fun x y v w B ex ey hv hw z B' H e s Q q => by
    obtain ⟨p, us, rfl, h2, h3⟩ := hv
    cases (show w = .int y from hw)
    obtain ⟨x1, e1, a1⟩ := hx x y ex ey
    obtain ⟨u, e2, hu⟩ := h3.at e1
    exact ⟨p, us, y, u, rfl, rfl, sq_of (s.ex _ _ (e _ _ h2)), e2, q x1 u z B' H a1 (.refl s) (Py.st _ _ _ _ e hu)⟩
theorem ty_ix {xs : List α} {x : α} (ha : Ty G c1 ta Γ (· = xs)) (hb : Ty G c2 tb Γ (· = i)) (hx : atI xs i = some x) : Ty G (c1 + c2) (tOp (rIxL K) ta tb) Γ (· = x) :=
  ty_ixN ha hb fun ys k e1 e2 => ⟨x, by rw [e1, e2]; exact hx, rfl⟩
theorem ty_fst {x : α × β} (ha : Ty G c1 ta Γ (· = x)) (hb : Ty G c2 tb Γ (· = (0 : Int))) : Ty G (c1 + c2) (tOp (rIxT K) ta tb) Γ (· = x.1) :=
  ty_op ha hb fun x' y v w B ex ey hv hw z B' H e s Q q => by
    obtain ⟨p, a, b, rfl, h2, h3, h4⟩ := hv
    cases (show w = .int y from hw)
    subst ex ey
    exact ⟨p, [a, b], 0, a, rfl, rfl, st_of (s.ex _ _ (e _ _ h2)), rfl, q _ a z B' H rfl (.refl s) (Py.st _ _ _ _ e h3)⟩
theorem ty_snd {x : α × β} (ha : Ty G c1 ta Γ (· = x)) (hb : Ty G c2 tb Γ (· = (1 : Int))) : Ty G (c1 + c2) (tOp (rIxT K) ta tb) Γ (· = x.2) :=
  ty_op ha hb fun x' y v w B ex ey hv hw z B' H e s Q q => by
    obtain ⟨p, a, b, rfl, h2, h3, h4⟩ := hv
    cases (show w = .int y from hw)
    subst ex ey
    exact ⟨p, [a, b], 1, b, rfl, rfl, st_of (s.ex _ _ (e _ _ h2)), rfl, q _ b z B' H rfl (.refl s) (Py.st _ _ _ _ e h4)⟩
/-- a new list in the heap -/
theorem new_list {xs : List α} {vs : List V} {z : Int} {p : Addr} (s : At G z B H) (h : H p = none) (e : Each B xs vs) :
    Nx G 0 z B H z (upd B p (.lst vs)) (upd H p (.lst vs)) ∧ Py.is xs (.ref p) (upd B p (.lst vs)) := by
  have n := Nx.alloc (o := .lst vs) s h
  exact ⟨n, p, vs, rfl, upd_same, e.ex n.up⟩
theorem new_tup {x : α} {y : β} {v w : V} {z : Int} {p : Addr} (s : At G z B H) (h : H p = none) (h1 : Py.is x v B) (h2 : Py.is y w B) :
    Nx G 0 z B H z (upd B p (.tup [v, w])) (upd H p (.tup [v, w])) ∧ Py.is (x, y) (.ref p) (upd B p (.tup [v, w])) := by
  have n := Nx.alloc (o := .tup [v, w]) s h
  exact ⟨n, p, v, w, rfl, upd_same, Py.st _ _ _ _ n.up h1, Py.st _ _ _ _ n.up h2⟩
def TyL (G : Option Addr) (c : Nat) (ta : TA) (Γ : Ctx) {α : Type} [Py α] (A : List α → Prop) : Prop :=
  ∀ z B σ H, Slo B σ Γ → At G z B H → z + c ≤ 2 ^ 50 → ∀ Q : List V → Hp → Prop, (∀ xs vs z' B' H', A xs → Each B' xs vs → Nx G c z B H z' B' H' → Q vs H') → ta σ H Q
theorem tl_nil : TyL (α := α) G 0 tNil Γ (· = []) := fun z B σ H en s _ Q q => q [] [] z B H rfl .nil (.refl s)
theorem tl_consN {A : α → Prop} {A' : List α → Prop} (h : Ty G c1 te Γ A) (hr : TyL G c2 tr Γ A') : TyL G (c1 + c2) (tCons te tr) Γ (fun l => ∃ x xs, l = x :: xs ∧ A x ∧ A' xs) := fun z B σ H en s hz Q q => by
  refine h z B σ H en s (by omega) _ fun x v z1 B1 H1 ax n1 hv => ?_
  refine hr z1 B1 σ H1 (en.up n1.up) n1.at_ (by have := n1.hi; omega) _ fun xs vs z2 B2 H2 al ea n2 => ?_
  exact q _ _ z2 B2 H2 ⟨x, xs, rfl, ax, al⟩ (.cons (Py.st _ _ _ _ n2.up hv) ea) (n1.trans s n2)
theorem TyL.imp {A A' : List α → Prop} (h : TyL G c tr Γ A) (i : ∀ x, A x → A' x) : TyL G c tr Γ A' := fun z B σ H en s hz Q q => h z B σ H en s hz Q fun x v z' B' H' a => q x v z' B' H' (i x a)
theorem tl_cons {x : α} {xs : List α} (h : Ty G c1 te Γ (· = x)) (hr : TyL G c2 tr Γ (· = xs)) : TyL G (c1 + c2) (tCons te tr) Γ (· = x :: xs) :=
  (tl_consN h hr).imp fun l ⟨_, _, e, e1, e2⟩ => by rw [e, e1, e2]
theorem ty_lst {A : List α → Prop} (h : TyL G c tr Γ A) (small : ∀ xs, A xs → xs.length ≤ 100000) : Ty G c (tLst tr) Γ A := fun z B σ H en s hz Q q =>
  h z B σ H en s hz _ fun xs vs z1 B1 H1 ax ea n1 => ⟨sz_of (by rw [ea.len]; exact small xs ax), fun p hp => by
    obtain ⟨n2, is2⟩ := new_list n1.at_ hp ea
    exact q xs _ _ _ _ ax ((n1.trans s n2).le (by omega)) is2⟩
theorem ty_lit {xs : List α} (h : TyL G c tr Γ (· = xs)) (small : xs.length ≤ 100000) : Ty G c (tLst tr) Γ (· = xs) := ty_lst h fun _ e => by rw [e]; exact small
theorem ty_nil : Ty G 0 (tLst tNil) Γ (· = ([] : List α)) := ty_lit tl_nil (by simp)
theorem ty_tup2 {x : α} {y : β} (h1 : Ty G c1 ta Γ (· = x)) (h2 : Ty G c2 tb Γ (· = y)) : Ty G (c1 + c2) (tTup (tCons ta (tCons tb tNil))) Γ (· = (x, y)) := fun z B σ H en s hz Q q => by
  refine h1 z B σ H en s (by omega) _ fun x' v z1 B1 H1 ex n1 hv => ?_
  refine h2 z1 B1 σ H1 (en.up n1.up) n1.at_ (by have := n1.hi; omega) _ fun y' w z2 B2 H2 ey n2 hw => ?_
  subst ex ey
  refine ⟨sz_of (by simp), fun p hp => ?_⟩
  obtain ⟨n3, is3⟩ := new_tup n2.at_ hp (Py.st _ _ _ _ n2.up hv) hw
  exact q _ _ _ _ _ rfl (((n1.trans s n2).trans s n3).le (by omega)) is3
/-- slices -/
def cutL (xs : List α) (lo hi : Option Int) : List α := (xs.drop (HT.sIx xs.length 0 lo)).take (HT.sIx xs.length xs.length hi - HT.sIx xs.length 0 lo)
theorem Each.cut {xs : List α} {vs : List V} (h : Each B xs vs) (lo hi : Option Int) : Each B (cutL xs lo hi) (cutV vs lo hi) := by
  unfold cutL cutV
  rw [h.len]
  exact (h.drop _).take _
def TyO (G : Option Addr) (c : Nat) (to : TO) (Γ : Ctx) (o : Option Int) : Prop :=
  ∀ z B σ H, Slo B σ Γ → At G z B H → z + c ≤ 2 ^ 50 → ∀ Q : Option Int → Hp → Prop, (∀ z' B' H', Nx G c z B H z' B' H' → Q o H') → to σ H Q
theorem to_none : TyO G 0 tNoPart Γ none := fun z B σ H _ s _ Q q => q z B H (.refl s)
theorem to_some (h : Ty G c te Γ (· = i)) : TyO G c (tPart te) Γ (some i) := fun z B σ H en s hz Q q =>
  h z B σ H en s hz _ fun x v z' B' H' ex n hv => ⟨x, hv, by rw [ex]; exact q z' B' H' n⟩
theorem ty_sl {xs : List α} {tl th : TO} {lo hi : Option Int} (h : Ty G c1 te Γ (· = xs)) (h1 : TyO G c2 tl Γ lo) (h2 : TyO G c3 th Γ hi) : Ty G (c1 + c2 + c3) (tSl (rSlL K) te tl th) Γ (· = cutL xs lo hi) := fun z B σ H en s hz Q q => by
  refine h z B σ H en s (by omega) _ fun x v z1 B1 H1 ex n1 hv => ?_
  refine h1 z1 B1 σ H1 (en.up n1.up) n1.at_ (by have := n1.hi; omega) _ fun z2 B2 H2 n2 => ?_
  refine h2 z2 B2 σ H2 ((en.up n1.up).up n2.up) n2.at_ (by have := n1.hi; have := n2.hi; omega) _ fun z3 B3 H3 n3 => ?_
  subst ex
  obtain ⟨a, us, rfl, e1, e2⟩ := hv
  refine ⟨a, us, rfl, sq_of (n3.at_.ex _ _ (n3.up _ _ (n2.up _ _ e1))), fun p hp => ?_⟩
  obtain ⟨n4, is4⟩ := new_list n3.at_ hp (((e2.ex n2.up).ex n3.up).cut lo hi)
  exact q _ _ _ _ _ rfl ((((n1.trans s n2).trans s n3).trans s n4).le (by omega)) is4
theorem ty_catN {A A' : List α → Prop} (ha : Ty G c1 ta Γ A) (hb : Ty G c2 tb Γ A') (small : ∀ xs ys, A xs → A' ys → xs.length + ys.length ≤ 100000) : Ty G (c1 + c2) (tOp rCat ta tb) Γ (fun l => ∃ xs ys, A xs ∧ A' ys ∧ l = xs ++ ys) :=
  ty_op ha hb fun x y v w B ex ey hv hw z B' H e s Q q => by
    obtain ⟨p, us, rfl, h1, h2⟩ := hv
    obtain ⟨p', us', rfl, h1', h2'⟩ := hw
    refine ⟨p, p', us, us', rfl, rfl, s.ex _ _ (e _ _ h1), s.ex _ _ (e _ _ h1'), sz_of (by rw [h2.len, h2'.len]; exact small x y ex ey), fun r hr => ?_⟩
    obtain ⟨n, is⟩ := new_list s hr ((h2.ex e).app (h2'.ex e))
    exact q _ _ _ _ _ ⟨x, y, ex, ey, rfl⟩ n is
theorem ty_cat {xs ys : List α} (ha : Ty G c1 ta Γ (· = xs)) (hb : Ty G c2 tb Γ (· = ys)) (small : xs.length + ys.length ≤ 100000) : Ty G (c1 + c2) (tOp rCat ta tb) Γ (· = xs ++ ys) :=
  (ty_catN ha hb fun _ _ e1 e2 => by rw [e1, e2]; exact small).imp fun l ⟨_, _, e1, e2, e⟩ => by rw [e, e1, e2]
theorem Each.rep {xs : List α} {vs : List V} (h : Each B xs vs) : ∀ k : Nat, Each B (List.replicate k xs).flatten (List.replicate k vs).flatten
  | 0 => .nil
  | k + 1 => by
    rw [List.replicate_succ, List.replicate_succ, List.flatten_cons, List.flatten_cons]
    exact h.app (Each.rep h k)
theorem ty_rep {xs : List α} (ha : Ty G c1 ta Γ (· = xs)) (hb : Ty G c2 tb Γ (· = i)) (h0 : -(2 ^ 63) ≤ i ∧ i < 2 ^ 63) (small : xs.length * i.toNat ≤ 100000) : Ty G (c1 + c2) (tOp L2.rRep ta tb) Γ (· = (List.replicate i.toNat xs).flatten) :=
  ty_op ha hb fun x y v w B ex ey hv hw z B' H e s Q q => by
    obtain ⟨p, us, rfl, h1, h2⟩ := hv
    cases (show w = .int y from hw)
    subst ex ey
    refine ⟨p, y, us, rfl, rfl, s.ex _ _ (e _ _ h1), h0.1, h0.2, sz_of (by rw [h2.len]; exact small), fun r hr => ?_⟩
    obtain ⟨n, is⟩ := new_list s hr ((h2.ex e).rep y.toNat)
    exact q _ _ _ _ _ rfl n is
theorem inV_int (i : Int) : ∀ ns : List Int, inV (.int i) (ns.map V.int) = decide (i ∈ ns)
  | [] => rfl
  | n :: r => by
    have ih := inV_int i r
    unfold inV at ih ⊢
    rw [List.map_cons, List.any_cons, ih]
    have e : eqV (V.int n) (V.int i) = decide (i = n) := by
      show (n == i) = decide (i = n)
      rw [Bool.eq_iff_iff, beq_iff_eq, decide_eq_true_iff]
      exact eq_comm
    rw [e]
    simp
theorem all_flat_int : ∀ ns : List Int, (ns.map V.int).all flatV = true
  | [] => rfl
  | _ :: r => by rw [List.map_cons, List.all_cons, all_flat_int r] <;> rfl
theorem ty_in {ns : List Int} (ha : Ty G c1 ta Γ (· = i)) (hb : Ty G c2 tb Γ (· = ns)) : Ty G (c1 + c2) (tOp (rIn K false) ta tb) Γ (· = decide (i ∈ ns)) :=
  ty_op ha hb fun x y v w B ex ey hv hw z B' H e s Q q => by
    obtain ⟨p, rfl, h1⟩ := Py.ints hw
    cases (show v = .int x from hv)
    subst ex ey
    refine ⟨p, _, rfl, Or.inl (sq_of (s.ex _ _ (e _ _ h1))), rfl, all_flat_int y, q _ _ z B' H rfl (.refl s) ?_⟩
    rw [inV_int]
    rfl
theorem ty_notIn {ns : List Int} (ha : Ty G c1 ta Γ (· = i)) (hb : Ty G c2 tb Γ (· = ns)) : Ty G (c1 + c2) (tOp (rIn K true) ta tb) Γ (· = !decide (i ∈ ns)) :=
  ty_op ha hb fun x y v w B ex ey hv hw z B' H e s Q q => by
    obtain ⟨p, rfl, h1⟩ := Py.ints hw
    cases (show v = .int x from hv)
    subst ex ey
    refine ⟨p, _, rfl, Or.inl (sq_of (s.ex _ _ (e _ _ h1))), rfl, all_flat_int y, q _ _ z B' H rfl (.refl s) ?_⟩
    rw [inV_int]
    rfl
/-- a built-in function of one list of ints -/
theorem Alls.one {P : VP} {vs : List V} (h : Alls B [P] vs) : ∃ v, vs = [v] ∧ P v B := by
  cases h with
  | cons _ h r =>
    cases r
    exact ⟨_, rfl, h⟩
theorem Alls.two {P P' : VP} {vs : List V} (h : Alls B [P, P'] vs) : ∃ v w, vs = [v, w] ∧ P v B ∧ P' w B := by
  cases h with
  | cons _ h r =>
    obtain ⟨w, rfl, k⟩ := r.one
    exact ⟨_, w, rfl, h, k⟩
theorem Alls.three {P P' P'' : VP} {vs : List V} (h : Alls B [P, P', P''] vs) : ∃ v w u, vs = [v, w, u] ∧ P v B ∧ P' w B ∧ P'' u B := by
  cases h with
  | cons _ h r =>
    obtain ⟨w, u, rfl, k⟩ := r.two
    exact ⟨_, w, u, rfl, h, k⟩
theorem ty_sum {ns : List Int} (h : Ty G c ta Γ (· = ns)) : Ty G (c + 0) (tCB (rSum K) (tCons ta tNil)) Γ (· = ns.sum) :=
  ty_cb (ta_cons h ta_nil) fun vs B al z B' H e s Q q => by
    obtain ⟨v, rfl, hv⟩ := al.one
    obtain ⟨p, rfl, h1⟩ := Py.ints hv
    exact ⟨p, ns, rfl, sq_of (s.ex _ _ (e _ _ h1)), q _ _ z B' H rfl (.refl s) rfl⟩
theorem ty_min {ns : List Int} (h : Ty G c ta Γ (· = ns)) (h0 : 0 < ns.length) : Ty G (c + 0) (tCB (rMin K) (tCons ta tNil)) Γ (fun m => m ∈ ns ∧ ∀ y, y ∈ ns → m ≤ y) :=
  ty_cb (ta_cons h ta_nil) fun vs B al z B' H e s Q q => by
    obtain ⟨v, rfl, hv⟩ := al.one
    obtain ⟨p, rfl, h1⟩ := Py.ints hv
    exact ⟨p, ns, rfl, sq_of (s.ex _ _ (e _ _ h1)), h0, fun m h1 h2 => q _ _ z B' H ⟨h1, h2⟩ (.refl s) rfl⟩
theorem ty_max {ns : List Int} (h : Ty G c ta Γ (· = ns)) (h0 : 0 < ns.length) : Ty G (c + 0) (tCB (rMax K) (tCons ta tNil)) Γ (fun m => m ∈ ns ∧ ∀ y, y ∈ ns → y ≤ m) :=
  ty_cb (ta_cons h ta_nil) fun vs B al z B' H e s Q q => by
    obtain ⟨v, rfl, hv⟩ := al.one
    obtain ⟨p, rfl, h1⟩ := Py.ints hv
    exact ⟨p, ns, rfl, sq_of (s.ex _ _ (e _ _ h1)), h0, fun m h1 h2 => q _ _ z B' H ⟨h1, h2⟩ (.refl s) rfl⟩
theorem ty_sortedN {A : List Int → Prop} (h : Ty G c ta Γ A) : Ty G (c + 0) (tCB (rSortedI K) (tCons ta tNil)) Γ (fun l : List Int => ∃ ns : List Int, A ns ∧ l.Perm ns ∧ l.Pairwise (· ≤ ·)) :=
  ty_cb (ta_consN h ta_nil) fun vs B al z B' H e s Q q => by
    obtain ⟨v, rfl, ns, an, hv⟩ := al.one
    obtain ⟨p, rfl, h1⟩ := Py.ints hv
    refine ⟨p, ns, rfl, sq_of (s.ex _ _ (e _ _ h1)), fun ms r pm so hr => ?_⟩
    obtain ⟨n, is⟩ := new_list s hr (Each.of_ints ms)
    exact q ms _ _ _ _ ⟨ns, an, pm, so⟩ n is
theorem ty_all {bs : List Bool} (h : Ty G c ta Γ (· = bs)) : Ty G (c + 0) (tCB (rAll K) (tCons ta tNil)) Γ (· = bs.all id) :=
  ty_cb (ta_cons h ta_nil) fun vs B al z B' H e s Q q => by
    obtain ⟨v, rfl, p, us, rfl, h1, h2⟩ := al.one
    cases h2.bls
    exact ⟨p, bs, rfl, sq_of (s.ex _ _ (e _ _ h1)), q _ _ z B' H rfl (.refl s) rfl⟩
theorem ty_any {bs : List Bool} (h : Ty G c ta Γ (· = bs)) : Ty G (c + 0) (tCB (rAny K) (tCons ta tNil)) Γ (· = bs.any id) :=
  ty_cb (ta_cons h ta_nil) fun vs B al z B' H e s Q q => by
    obtain ⟨v, rfl, p, us, rfl, h1, h2⟩ := al.one
    cases h2.bls
    exact ⟨p, bs, rfl, sq_of (s.ex _ _ (e _ _ h1)), q _ _ z B' H rfl (.refl s) rfl⟩
def rInt1 : List V → Hp → VK → Prop := fun xs H Q => (∃ i, xs = [.int i] ∧ Q (.int i) H) ∨ ∃ k, xs = [.bl k] ∧ Q (.int (if k then 1 else 0)) H
theorem ty_int {A : Int → Prop} (h : Ty G c ta Γ A) : Ty G (c + 0) (tCB rInt1 (tCons ta tNil)) Γ A :=
  ty_cb (ta_consN h ta_nil) fun vs B al z B' H e s Q q => by
    obtain ⟨v, rfl, n, an, hv⟩ := al.one
    cases (show v = .int n from hv)
    exact .inl ⟨n, rfl, q n _ z B' H an (.refl s) rfl⟩
theorem ty_intB {b : Bool} (h : Ty G c ta Γ (· = b)) : Ty G (c + 0) (tCB rInt1 (tCons ta tNil)) Γ (· = if b then (1 : Int) else 0) :=
  ty_cb (ta_cons h ta_nil) fun vs B al z B' H e s Q q => by
    obtain ⟨v, rfl, hv⟩ := al.one
    cases (show v = .bl b from hv)
    exact .inr ⟨b, rfl, q _ _ z B' H rfl (.refl s) rfl⟩
theorem ty_max2 (h1 : Ty G c1 ta Γ (· = i)) (h2 : Ty G c2 tb Γ (· = j)) : Ty G (c1 + (c2 + 0)) (tCB rMax2 (tCons ta (tCons tb tNil))) Γ (· = if j > i then j else i) :=
  ty_cb (ta_cons h1 (ta_cons h2 ta_nil)) fun vs B al z B' H e s Q q => by
    obtain ⟨v, w, rfl, hv, hw⟩ := al.two
    cases (show v = .int i from hv)
    cases (show w = .int j from hw)
    exact ⟨i, j, rfl, q _ _ z B' H rfl (.refl s) rfl⟩
def rMin2 : List V → Hp → VK → Prop := fun xs H Q => ∃ i j, xs = [.int i, .int j] ∧ Q (.int (if j < i then j else i)) H
theorem ty_min2 (h1 : Ty G c1 ta Γ (· = i)) (h2 : Ty G c2 tb Γ (· = j)) : Ty G (c1 + (c2 + 0)) (tCB rMin2 (tCons ta (tCons tb tNil))) Γ (· = if j < i then j else i) :=
  ty_cb (ta_cons h1 (ta_cons h2 ta_nil)) fun vs B al z B' H e s Q q => by
    obtain ⟨v, w, rfl, hv, hw⟩ := al.two
    cases (show v = .int i from hv)
    cases (show w = .int j from hw)
    exact ⟨i, j, rfl, q _ _ z B' H rfl (.refl s) rfl⟩
theorem ty_listOf {xs : List α} (h : Ty G c ta Γ (· = xs)) : Ty G (c + 0) (tCB (rListS K) (tCons ta tNil)) Γ (· = xs) :=
  ty_cb (ta_cons h ta_nil) fun vs B al z B' H e s Q q => by
    obtain ⟨v, rfl, p, us, rfl, h1, h2⟩ := al.one
    refine ⟨p, us, rfl, Or.inl (sq_of (s.ex _ _ (e _ _ h1))), fun r hr => ?_⟩
    obtain ⟨n, is⟩ := new_list s hr (h2.ex e)
    exact q _ _ _ _ _ rfl n is
theorem ty_rev {xs : List α} (h : Ty G c te Γ (· = xs)) : Ty G c (tRevL K te) Γ (· = xs.reverse) := fun z B σ H en s hz Q q => by
  refine h z B σ H en s hz _ fun x v z1 B1 H1 ex n1 hv => ?_
  subst ex
  obtain ⟨a, us, rfl, e1, e2⟩ := hv
  refine ⟨a, us, rfl, sq_of (n1.at_.ex _ _ e1), fun p hp => ?_⟩
  obtain ⟨n4, is4⟩ := new_list n1.at_ hp e2.rev
  exact q _ _ _ _ _ rfl ((n1.trans s n4).le (by omega)) is4
end
end AP

set_option maxHeartbeats 4000000
/-! Promises of defs, statements, loops and comprehensions over W1's judgements. -/
namespace AP
open PySem PySem.Spec PyProof.Rows L2 Evl

/-! ### promises -/
/-- what a def is called with, in which generator, what it costs, what it gives -/
structure Con (ι β : Type) [Py β] where
  args : ι → List VP
  pre : ι → Option Addr → Prop
  c : ι → Nat
  post : ι → β → Prop
def Con.sp {ι β : Type} [Py β] (C : Con ι β) : Sp := fun vs H Q _ => ∃ i G z B, Alls B (C.args i) vs ∧ C.pre i G ∧ At G z B H ∧ z + C.c i ≤ 2 ^ 50 ∧
  ∀ y w z' B' H', C.post i y → Nx G (C.c i) z B H z' B' H' → Py.is y w B' → Q w H'
section
variable {K : PySem.W.Frag} {G : Option Addr} {c c1 c2 c3 : Nat} {te ta tb tx : TE} {tt tu : TT} {Γ : Ctx} {ι α β γ : Type} [Py α] [Py β] [Py γ] {A A' : α → Prop} {A1 : β → Prop} {Ps : List VP} {tr : TA} {B B' H : Hp} {v w : V}
theorem ty_callN {C : Con ι β} {dvs : List V} {E : XK} (h : TyA G c1 tr Γ Ps) (k : ∀ vs B, Alls B Ps vs → ∃ i, Alls B (C.args i) (vs ++ dvs) ∧ C.pre i G ∧ C.c i ≤ c2 ∧ ∀ y, C.post i y → A1 y) :
    Ty G (c1 + c2) (tCall C.sp dvs E tr) Γ A1 := fun z B σ H en s hz Q q => by
  refine h z B σ H en s (by omega) _ fun vs z1 B1 H1 al n1 => ?_
  obtain ⟨i, h1, h2, h3, h4⟩ := k vs B1 al
  exact ⟨i, G, z1, B1, h1, h2, n1.at_, by have := n1.hi; omega, fun y w z2 B2 H2 py n2 hw => q y w z2 B2 H2 (h4 y py) (n1.trans s (n2.le h3)) hw⟩
theorem ty_call {C : Con ι β} {E : XK} (i : ι) (h : TyA G c1 tr Γ (C.args i)) (p : C.pre i G) : Ty G (c1 + C.c i) (tCall C.sp [] E tr) Γ (C.post i) :=
  ty_callN h fun vs B al => ⟨i, by rw [List.append_nil]; exact al, p, Nat.le_refl _, fun _ h => h⟩
/-- by keywords: gV orders them -/
theorem ty_callK {C : Con ι β} {E : XK} {gV : List V → List V → List V} {tk : TA} (i : ι) {Ps Ks : List VP} (h : TyA G c1 tr Γ Ps) (hk : TyA G c2 tk Γ Ks) (p : C.pre i G) (ord : ∀ vs ks B, Alls B Ps vs → Alls B Ks ks → Alls B (C.args i) (gV vs ks)) :
    Ty G (c1 + c2 + C.c i) (tCallK C.sp gV E tr tk) Γ (C.post i) := fun z B σ H en s hz Q q => by
  refine h z B σ H en s (by omega) _ fun vs z1 B1 H1 al n1 => ?_
  refine hk z1 B1 σ H1 (en.up n1.up) n1.at_ (by have := n1.hi; omega) _ fun ks z2 B2 H2 al2 n2 => ?_
  exact ⟨i, G, z2, B2, ord vs ks B2 (al.ex n2.up) al2, p, n2.at_, by have := n1.hi; have := n2.hi; omega, fun y w z3 B3 H3 py n3 hw => q y w z3 B3 H3 py ((n1.trans s n2).trans s n3) hw⟩
end

/-! ### statements: where one stands, n from the def's start -/
section
variable {K : PySem.W.Frag} {G : Option Addr} {c c0 c1 c2 c3 : Nat} {te ta tb tx : TE} {tt : TT} {Γ : Ctx} {ι α β γ : Type} [Py α] [Py β] [Py γ] {A : α → Prop} {A1 : β → Prop} {Ps : List VP} {tr : TA} {B B' H B0 H0 : Hp} {v w : V}
  {σ : L2.St} {z z0 : Int} {D : Ends} {t t1 t2 tz : TS} {g : TG}
theorem q_asg (s0 : At G z0 B0 H0) (n : Nx G c0 z0 B0 H0 z B H) (en : Slo B σ Γ) {i : Nat} (h : Ty G c te Γ A) (hz : z0 + (c0 + c) ≤ 2 ^ 50)
    (k : ∀ x z' B' H' σ', A x → Nx G c z B H z' B' H' → Nx G (c0 + c) z0 B0 H0 z' B' H' → Slo B' σ' (Γ.set i (some (Py.is x))) → D.nx σ' H') : tAsg te (gName i) D σ H :=
  h z B σ H en n.at_ (by have := n.hi; omega) _ fun x v z' B' H' ax n' hv => k x z' B' H' _ ax n' (n.trans s0 n') ((en.up n'.up).put hv)
theorem q_asgS (s0 : At G z0 B0 H0) (n : Nx G c0 z0 B0 H0 z B H) (en : Slo B σ Γ) {i : Nat} (h : Ty G c te Γ A) (hz : z0 + (c0 + c) ≤ 2 ^ 50)
    (k : ∀ x z' B' H' σ', A x → Nx G c z B H z' B' H' → Nx G (c0 + c) z0 B0 H0 z' B' H' → Slo B' σ' (Γ.set i (some (Py.is x))) → tz D σ' H') : tSeq (tAsg te (gName i)) tz D σ H :=
  q_asg (D := { D with nx := tz D }) s0 n en h hz k
theorem q_drop (s0 : At G z0 B0 H0) (n : Nx G c0 z0 B0 H0 z B H) (en : Slo B σ Γ) (h : Ty G c te Γ A) (hz : z0 + (c0 + c) ≤ 2 ^ 50)
    (k : ∀ x z' B' H', A x → Nx G c z B H z' B' H' → Nx G (c0 + c) z0 B0 H0 z' B' H' → Slo B' σ Γ → D.nx σ H') : tDrop te D σ H :=
  h z B σ H en n.at_ (by have := n.hi; omega) _ fun x v z' B' H' ax n' hv => k x z' B' H' ax n' (n.trans s0 n') (en.up n'.up)
theorem q_dropS (s0 : At G z0 B0 H0) (n : Nx G c0 z0 B0 H0 z B H) (en : Slo B σ Γ) (h : Ty G c te Γ A) (hz : z0 + (c0 + c) ≤ 2 ^ 50)
    (k : ∀ x z' B' H', A x → Nx G c z B H z' B' H' → Nx G (c0 + c) z0 B0 H0 z' B' H' → Slo B' σ Γ → tz D σ H') : tSeq (tDrop te) tz D σ H :=
  q_drop (D := { D with nx := tz D }) s0 n en h hz k
theorem q_ret (s0 : At G z0 B0 H0) (n : Nx G c0 z0 B0 H0 z B H) (en : Slo B σ Γ) (h : Ty G c te Γ A) (hz : z0 + (c0 + c) ≤ 2 ^ 50)
    (k : ∀ x v z' B' H', A x → Nx G (c0 + c) z0 B0 H0 z' B' H' → Py.is x v B' → D.rt v H') : tRet te D σ H :=
  h z B σ H en n.at_ (by have := n.hi; omega) _ fun x v z' B' H' ax n' hv => k x v z' B' H' ax (n.trans s0 n') hv
theorem q_if {Ab : Bool → Prop} (s0 : At G z0 B0 H0) (n : Nx G c0 z0 B0 H0 z B H) (en : Slo B σ Γ) (h : TyT G c tt Γ Ab) (hz : z0 + (c0 + c) ≤ 2 ^ 50)
    (k1 : Ab true → ∀ z' B' H', Nx G c z B H z' B' H' → Nx G (c0 + c) z0 B0 H0 z' B' H' → Slo B' σ Γ → t1 D σ H')
    (k2 : Ab false → ∀ z' B' H', Nx G c z B H z' B' H' → Nx G (c0 + c) z0 B0 H0 z' B' H' → Slo B' σ Γ → t2 D σ H') : tIfS tt t1 t2 D σ H :=
  h z B σ H en n.at_ (by have := n.hi; omega) _ fun b z' B' H' ab n' => by
    cases b with
    | true => exact k1 ab z' B' H' n' (n.trans s0 n') (en.up n'.up)
    | false => exact k2 ab z' B' H' n' (n.trans s0 n') (en.up n'.up)
theorem q_ifS {Ab : Bool → Prop} (s0 : At G z0 B0 H0) (n : Nx G c0 z0 B0 H0 z B H) (en : Slo B σ Γ) (h : TyT G c tt Γ Ab) (hz : z0 + (c0 + c) ≤ 2 ^ 50)
    (k1 : Ab true → ∀ z' B' H', Nx G c z B H z' B' H' → Nx G (c0 + c) z0 B0 H0 z' B' H' → Slo B' σ Γ → t1 { D with nx := tz D } σ H')
    (k2 : Ab false → ∀ z' B' H', Nx G c z B H z' B' H' → Nx G (c0 + c) z0 B0 H0 z' B' H' → Slo B' σ Γ → t2 { D with nx := tz D } σ H') : tSeq (tIfS tt t1 t2) tz D σ H :=
  q_if (D := { D with nx := tz D }) s0 n en h hz k1 k2
/-- if c: return .. (no else), c deterministic -/
theorem q_when {b : Bool} (s0 : At G z0 B0 H0) (n : Nx G c0 z0 B0 H0 z B H) (en : Slo B σ Γ) (h : TyT G c tt Γ (· = b)) (hz : z0 + (c0 + c) ≤ 2 ^ 50)
    (k1 : b = true → ∀ z' B' H', Nx G c z B H z' B' H' → Nx G (c0 + c) z0 B0 H0 z' B' H' → Slo B' σ Γ → t1 { D with nx := tz D } σ H')
    (k2 : b = false → ∀ z' B' H', Nx G c z B H z' B' H' → Nx G (c0 + c) z0 B0 H0 z' B' H' → Slo B' σ Γ → tz D σ H') : tSeq (tIfS tt t1 tNext) tz D σ H :=
  q_ifS s0 n en h hz (fun e => k1 e.symm) (fun e => k2 e.symm)
/-- a check that never holds -/
theorem q_not (s0 : At G z0 B0 H0) (n : Nx G c0 z0 B0 H0 z B H) (en : Slo B σ Γ) (h : TyT G c tt Γ (· = false)) (hz : z0 + (c0 + c) ≤ 2 ^ 50)
    (k2 : ∀ z' B' H', Nx G c z B H z' B' H' → Nx G (c0 + c) z0 B0 H0 z' B' H' → Slo B' σ Γ → tz D σ H') : tSeq (tIfS tt t1 tNext) tz D σ H :=
  q_when s0 n en h hz (fun e => Bool.noConfusion e) (fun _ => k2)
theorem s_not (s0 : At G z0 B0 H0) (n : Nx G c0 z0 B0 H0 z B H) (en : Slo B σ Γ) (h : TyT G c tt Γ (· = false)) (hz : z0 + (c0 + c) ≤ 2 ^ 50)
    (k2 : ∀ z' B' H', Nx G c z B H z' B' H' → Nx G (c0 + c) z0 B0 H0 z' B' H' → Slo B' σ Γ → D.nx σ H') : tIfS tt t1 tNext D σ H :=
  q_if s0 n en h hz (fun e => Bool.noConfusion e) (fun _ => k2)
/-- a, b = e1, e2 -/
theorem q_par {i j : Nat} {c1 c2 : Nat} (s0 : At G z0 B0 H0) (n : Nx G c0 z0 B0 H0 z B H) (en : Slo B σ Γ) (h1 : Ty G c1 ta Γ A) (h2 : Ty G c2 tb Γ A1) (hz : z0 + (c0 + (c1 + c2)) ≤ 2 ^ 50)
    (k : ∀ x y z' B' H' σ', A x → A1 y → Nx G (c1 + c2) z B H z' B' H' → Nx G (c0 + (c1 + c2)) z0 B0 H0 z' B' H' → Slo B' σ' ((Γ.set i (some (Py.is x))).set j (some (Py.is y))) → tz D σ' H') :
    tSeq (tPar i j (tCons ta (tCons tb tNil))) tz D σ H := by
  refine h1 z B σ H en n.at_ (by have := n.hi; omega) _ fun x v z1 B1 H1 ax n1 hv => ?_
  refine h2 z1 B1 σ H1 (en.up n1.up) n1.at_ (by have := n.hi; have := n1.hi; omega) _ fun y w z2 B2 H2 ay n2 hw => ?_
  have nn := n1.trans n.at_ n2
  exact ⟨v, w, rfl, k x y z2 B2 H2 _ ax ay nn (n.trans s0 nn) (((en.up nn.up).put (Py.st _ _ _ _ n2.up hv)).put hw)⟩
/-- a, b = (e1, e2) through a tuple -/
theorem q_parT {i j : Nat} {c1 c2 : Nat} (s0 : At G z0 B0 H0) (n : Nx G c0 z0 B0 H0 z B H) (en : Slo B σ Γ) (h1 : Ty G c1 ta Γ A) (h2 : Ty G c2 tb Γ A1) (hz : z0 + (c0 + (c1 + c2)) ≤ 2 ^ 50)
    (k : ∀ x y z' B' H' σ', A x → A1 y → Nx G (c1 + c2) z B H z' B' H' → Nx G (c0 + (c1 + c2)) z0 B0 H0 z' B' H' → Slo B' σ' ((Γ.set i (some (Py.is x))).set j (some (Py.is y))) → tz D σ' H') :
    tSeq (tAsg (tTup (tCons ta (tCons tb tNil))) (gTup K 2 (gCons (gName i) (gCons (gName j) gNil)))) tz D σ H := by
  refine h1 z B σ H en n.at_ (by have := n.hi; omega) _ fun x v z1 B1 H1 ax n1 hv => ?_
  refine h2 z1 B1 σ H1 (en.up n1.up) n1.at_ (by have := n.hi; have := n1.hi; omega) _ fun y w z2 B2 H2 ay n2 hw => ?_
  have nn := n1.trans n.at_ n2
  refine ⟨sz_of (by simp), fun p hp => ⟨p, [v, w], rfl, st_of upd_same, rfl, v, _, rfl, w, _, rfl, rfl, ?_⟩⟩
  have n3 := nn.trans n.at_ (Nx.more n2.at_ (Ex.new (o := .tup [v, w]) hp))
  exact k x y z2 B2 _ _ ax ay n3 (n.trans s0 n3) (((en.up nn.up).put (Py.st _ _ _ _ n2.up hv)).put hw)
theorem q_par3T {i j l : Nat} {c1 c2 c3 : Nat} {A2 : γ → Prop} {tc : TE} (s0 : At G z0 B0 H0) (n : Nx G c0 z0 B0 H0 z B H) (en : Slo B σ Γ) (h1 : Ty G c1 ta Γ A) (h2 : Ty G c2 tb Γ A1) (h3 : Ty G c3 tc Γ A2) (hz : z0 + (c0 + (c1 + c2 + c3)) ≤ 2 ^ 50)
    (k : ∀ x y u z' B' H' σ', A x → A1 y → A2 u → Nx G (c1 + c2 + c3) z B H z' B' H' → Nx G (c0 + (c1 + c2 + c3)) z0 B0 H0 z' B' H' → Slo B' σ' (((Γ.set i (some (Py.is x))).set j (some (Py.is y))).set l (some (Py.is u))) → tz D σ' H') :
    tSeq (tAsg (tTup (tCons ta (tCons tb (tCons tc tNil)))) (gTup K 3 (gCons (gName i) (gCons (gName j) (gCons (gName l) gNil))))) tz D σ H := by
  refine h1 z B σ H en n.at_ (by have := n.hi; omega) _ fun x v z1 B1 H1 ax n1 hv => ?_
  refine h2 z1 B1 σ H1 (en.up n1.up) n1.at_ (by have := n.hi; have := n1.hi; omega) _ fun y w z2 B2 H2 ay n2 hw => ?_
  have nn := n1.trans n.at_ n2
  refine h3 z2 B2 σ H2 (en.up nn.up) n2.at_ (by have := n.hi; have := nn.hi; omega) _ fun u m z3 B3 H3 au n3 hm => ?_
  have nm := nn.trans n.at_ n3
  refine ⟨sz_of (by simp), fun p hp => ⟨p, [v, w, m], rfl, st_of upd_same, rfl, v, _, rfl, w, _, rfl, m, _, rfl, rfl, ?_⟩⟩
  have n4 := nm.trans n.at_ (Nx.more n3.at_ (Ex.new (o := .tup [v, w, m]) hp))
  exact k x y u z3 B3 _ _ ax ay au n4 (n.trans s0 n4) ((((en.up nm.up).put (Py.st _ _ _ _ (n2.up.trans n3.up) hv)).put (Py.st _ _ _ _ n3.up hw)).put hm)

/-! ### what loops and comprehensions go over -/
/-- the turns' items: what each one does to the slots -/
structure Src (J : It) (g : TG) (B : Hp) (js : List Nat) (n : Nat) (F : Nat → Ctx → Ctx) : Prop where
  stop : ∀ H, Ex B H → J.stop n H
  go : ∀ i, i < n → ∀ H, Ex B H → J.go i H
  yld : ∀ i, i < n → ∀ x H H', Ex B H → J.yld i H x H' → Ex H H' ∧ ∀ σ Γ Bc, Slo Bc σ Γ → Ex B Bc → Ex Bc H → ∀ Q : L2.St → Hp → Prop,
    (∀ σ', Slo Bc σ' (F i Γ) → (∀ vs, (∀ j ∈ js, j ∈ vs) → L2.wipe σ' vs = L2.wipe σ vs) → Q σ' H') → g x σ H' Q
def TyI (G : Option Addr) (c : Nat) (wi : TI) (g : TG) (Γ : Ctx) (js : List Nat) (An : Nat → Prop) (F : Nat → Ctx → Ctx) : Prop :=
  ∀ z B σ H, Slo B σ Γ → At G z B H → z + c ≤ 2 ^ 50 → ∀ R : It → Hp → Prop, (∀ J n z' B' H', An n → Nx G c z B H z' B' H' → Src J g B' js n F → R J H') → wi σ H R
theorem wipe_set (σ : L2.St) (j : Nat) (x : Option V) : ∀ vs : List Nat, j ∈ vs → L2.wipe (σ.set j x) vs = L2.wipe σ vs
  | v :: vs, h => by
    unfold L2.wipe
    by_cases e : j ∈ vs
    · rw [wipe_set σ j x vs e]
    · have ev : j = v := by
        rcases List.mem_cons.mp h with h | h
        · exact h
        · exact absurd h e
      subst ev
      clear h
      have : ∀ us : List Nat, (L2.wipe (σ.set j x) us).set j none = (L2.wipe σ us).set j none := by
        intro us
        induction us with
        | nil => show (σ.set j x).set j none = σ.set j none; rw [List.set_set]
        | cons u us ih =>
          unfold L2.wipe
          by_cases k : u = j
          · subst k
            rw [List.set_set, List.set_set]
            exact ih
          · rw [List.set_comm _ _ k, List.set_comm _ _ k, ih]
      exact this vs
theorem src_name {J : It} {j n : Nat} {f : Nat → VP} (st : ∀ i, Stays (f i)) (h1 : ∀ H, Ex B H → J.stop n H) (h2 : ∀ i, i < n → ∀ H, Ex B H → J.go i H)
    (h3 : ∀ i, i < n → ∀ x H H', Ex B H → J.yld i H x H' → H' = H ∧ f i x B) : Src J (gName j) B [j] n (fun i Γ => Γ.set j (some (f i))) :=
  ⟨h1, h2, fun i hi x H H' e y => by
    obtain ⟨rfl, p⟩ := h3 i hi x H H' e y
    refine ⟨Ex.refl _, fun σ Γ Bc en eb ec Q q => q _ (en.set (st i) (st i _ _ _ eb p)) fun vs hv => wipe_set σ j _ vs (hv j (by simp))⟩⟩
/-- the item at a turn -/
def itm {α : Type} [Py α] (xs : List α) (i : Nat) : VP := fun v B => ∃ x, xs[i]? = some x ∧ Py.is x v B
theorem itm_st {xs : List α} (i : Nat) : Stays (itm xs i) := fun _ _ _ e ⟨x, h1, h2⟩ => ⟨x, h1, Py.st _ _ _ _ e h2⟩
theorem itm_eq {xs : List α} {i : Nat} {x : α} (h : xs[i]? = some x) : itm xs i = Py.is x := by
  funext v B
  refine propext ⟨fun ⟨y, h1, h2⟩ => ?_, fun h2 => ⟨x, h, h2⟩⟩
  rw [h] at h1
  cases h1
  exact h2
theorem ti_list {xs : List α} {tl : TE} {j : Nat} (h : Ty G c tl Γ (· = xs)) : TyI G c (iList K tl) (gName j) Γ [j] (· = xs.length) (fun i Γ => Γ.set j (some (itm xs i))) := fun z B σ H en s hz R r => by
  refine h z B σ H en s hz _ fun x v z1 B1 H1 ex n1 hv => ?_
  subst ex
  obtain ⟨p, us, rfl, e1, e2⟩ := hv
  refine ⟨p, rfl, ⟨us, sq_of (n1.at_.ex _ _ e1)⟩, r _ _ z1 B1 H1 rfl n1 (src_name itm_st (fun H e => ⟨us, sq_of (e _ _ e1), Nat.le_of_eq e2.len⟩) (fun i hi H e => ?_) fun i hi x' H H' e y => ?_)⟩
  · have lt : i < us.length := by rw [e2.len]; exact hi
    exact ⟨us, us[i], sq_of (e _ _ e1), List.getElem?_eq_getElem lt⟩
  · obtain ⟨q1, q2⟩ := y
    exact ⟨q1, e2.got (q2 us (sq_of (e _ _ e1)))⟩
theorem ti_rng1 {n : Int} {j : Nat} (h : TyA G c tr Γ [Py.is n]) (hn : -(2 ^ 62) ≤ n ∧ n < 2 ^ 62) : TyI G c (iRng1 tr) (gName j) Γ [j] (· = n.toNat) (fun i Γ => Γ.set j (some (Py.is (i : Int)))) := fun z B σ H en s hz R r => by
  refine h z B σ H en s hz _ fun vs z1 B1 H1 al n1 => ?_
  obtain ⟨v, rfl, hv⟩ := al.one
  cases (show v = .int n from hv)
  exact ⟨n, rfl, hn.1, hn.2, r _ _ z1 B1 H1 rfl n1 (src_name (fun i => Py.stays (i : Int)) (fun H e => Nat.le_refl _) (fun i hi H e => hi) fun i hi x' H H' e y => ⟨y.1, by rw [y.2]; show V.int _ = V.int _; rw [Int.zero_add]⟩)⟩
theorem ti_rng2 {lo n : Int} {j : Nat} (h : TyA G c tr Γ [Py.is lo, Py.is n]) (h1 : -(2 ^ 62) ≤ lo ∧ lo < 2 ^ 62) (hn : -(2 ^ 62) ≤ n ∧ n < 2 ^ 62) : TyI G c (iRng2 tr) (gName j) Γ [j] (· = (n - lo).toNat) (fun i Γ => Γ.set j (some (Py.is (lo + (i : Int))))) := fun z B σ H en s hz R r => by
  refine h z B σ H en s hz _ fun vs z1 B1 H1 al n1 => ?_
  obtain ⟨v, w, rfl, hv, hw⟩ := al.two
  cases (show v = .int lo from hv)
  cases (show w = .int n from hw)
  exact ⟨lo, n, rfl, ⟨h1.1, h1.2, hn.1, hn.2⟩, r _ _ z1 B1 H1 rfl n1 (src_name (fun i => Py.stays (lo + (i : Int))) (fun H e => Nat.le_refl _) (fun i hi H e => hi) fun i hi x' H H' e y => ⟨y.1, y.2⟩)⟩
theorem ti_rev {xs : List α} {tl : TE} {j : Nat} (h : Ty G c tl Γ (· = xs)) : TyI G c (RT.iRevA K tl) (gName j) Γ [j] (· = xs.length) (fun i Γ => Γ.set j (some (itm xs (xs.length - 1 - i)))) := fun z B σ H en s hz R r => by
  refine h z B σ H en s hz _ fun x v z1 B1 H1 ex n1 hv => ?_
  subst ex
  obtain ⟨p, us, rfl, e1, e2⟩ := hv
  refine ⟨p, us, rfl, Or.inl ⟨sq_of (n1.at_.ex _ _ e1), r _ _ z1 B1 H1 rfl n1 (src_name (fun i => itm_st _) (fun H e => Nat.le_of_eq e2.len) (fun i hi H e => ?_) fun i hi x' H H' e y => ?_)⟩⟩
  · have lt : us.length - 1 - i < us.length := by rw [e2.len]; omega
    exact ⟨by rw [e2.len]; exact hi, us, us[us.length - 1 - i], sq_of (e _ _ e1), List.getElem?_eq_getElem lt⟩
  · obtain ⟨q1, q2⟩ := y
    have := e2.got (q2 us (sq_of (e _ _ e1)))
    rw [e2.len] at this
    exact ⟨q1, this⟩
/-- two names from a tuple that is made on the way -/
theorem src_two {J : It} {j k n : Nat} {f f' : Nat → VP} (st : ∀ i, Stays (f i)) (st' : ∀ i, Stays (f' i)) (h1 : ∀ H, Ex B H → J.stop n H) (h2 : ∀ i, i < n → ∀ H, Ex B H → J.go i H)
    (h3 : ∀ i, i < n → ∀ x H H', Ex B H → J.yld i H x H' → ∃ T a b, x = .ref T ∧ H T = none ∧ H' = upd H T (.tup [a, b]) ∧ f i a B ∧ f' i b B) :
    Src J (gTup K 2 (gCons (gName j) (gCons (gName k) gNil))) B [j, k] n (fun i Γ => (Γ.set j (some (f i))).set k (some (f' i))) :=
  ⟨h1, h2, fun i hi x H H' e y => by
    obtain ⟨T, a, b, rfl, nT, rfl, p, p'⟩ := h3 i hi x H H' e y
    refine ⟨Ex.new nT, fun σ Γ Bc en eb ec Q q => ⟨T, [a, b], rfl, st_of upd_same, rfl, a, _, rfl, b, _, rfl, rfl, ?_⟩⟩
    refine q _ ((en.set (st i) (st i _ _ _ eb p)).set (st' i) (st' i _ _ _ eb p')) fun vs hv => ?_
    rw [wipe_set _ k _ vs (hv k (by simp)), wipe_set _ j _ vs (hv j (by simp))]⟩
theorem ti_enum {xs : List α} {tr : TA} {j k : Nat} (h : TyA G c tr Γ [Py.is xs]) : TyI G c (iEnum K tr) (gTup K 2 (gCons (gName j) (gCons (gName k) gNil))) Γ [j, k] (· = xs.length) (fun i Γ => (Γ.set j (some (Py.is (i : Int)))).set k (some (itm xs i))) := fun z B σ H en s hz R r => by
  refine h z B σ H en s hz _ fun vs z1 B1 H1 al n1 => ?_
  obtain ⟨v, rfl, hv⟩ := al.one
  obtain ⟨p, us, rfl, e1, e2⟩ := hv
  refine ⟨p, us, rfl, sq_of (n1.at_.ex _ _ e1), r _ _ z1 B1 H1 rfl n1 (src_two (fun i => Py.stays (i : Int)) itm_st (fun H e => ⟨us, sq_of (e _ _ e1), Nat.le_of_eq e2.len⟩) (fun i hi H e => ?_) fun i hi x' H H' e y => ?_)⟩
  · have lt : i < us.length := by rw [e2.len]; exact hi
    exact ⟨us, us[i], sq_of (e _ _ e1), List.getElem?_eq_getElem lt⟩
  · obtain ⟨T, x, q1, q2, q3, q4⟩ := y
    exact ⟨T, _, x, q1, q2, q3, rfl, e2.got (q4 us (sq_of (e _ _ e1)))⟩
theorem ti_zip {xs : List α} {ys : List β} {tr : TA} {j k : Nat} (h : TyA G c tr Γ [Py.is xs, Py.is ys]) :
    TyI G c (iZip K tr) (gTup K 2 (gCons (gName j) (gCons (gName k) gNil))) Γ [j, k] (· = min xs.length ys.length) (fun i Γ => (Γ.set j (some (itm xs i))).set k (some (itm ys i))) := fun z B σ H en s hz R r => by
  refine h z B σ H en s hz _ fun vs z1 B1 H1 al n1 => ?_
  obtain ⟨v, w, rfl, hv, hw⟩ := al.two
  obtain ⟨p, us, rfl, e1, e2⟩ := hv
  obtain ⟨p', us', rfl, e1', e2'⟩ := hw
  have l1 := e2.len
  have l2 := e2'.len
  refine ⟨p, p', us, us', rfl, sq_of (n1.at_.ex _ _ e1), sq_of (n1.at_.ex _ _ e1'), r _ _ z1 B1 H1 rfl n1 (src_two itm_st itm_st (fun H e => ⟨us, us', sq_of (e _ _ e1), sq_of (e _ _ e1'), by omega⟩) (fun i hi H e => ?_) fun i hi x' H H' e y => ?_)⟩
  · have lt : i < us.length := by omega
    have lt' : i < us'.length := by omega
    exact ⟨us, us', us[i], us'[i], sq_of (e _ _ e1), sq_of (e _ _ e1'), List.getElem?_eq_getElem lt, List.getElem?_eq_getElem lt'⟩
  · obtain ⟨T, x, x2, q1, q2, q3, q4, q5⟩ := y
    exact ⟨T, x, x2, q1, q2, q3, e2.got (q4 us (sq_of (e _ _ e1))), e2'.got (q5 us' (sq_of (e _ _ e1')))⟩

/-! ### loops -/
/-- the loop's word at a turn -/
def Lw (G : Option Addr) (z0 : Int) (B0 H0 Bs : Hp) (cc cb : Nat) (Inv : Nat → Ctx → Hp → Hp → Prop) (i : Nat) (σ : L2.St) (H : Hp) : Prop :=
  ∃ Γ z B, Inv i Γ B H ∧ Ex Bs B ∧ Nx G (cc + i * cb) z0 B0 H0 z B H ∧ Slo B σ Γ
theorem q_for {wi : TI} {js : List Nat} {cb : Nat} {An : Nat → Prop} {F : Nat → Ctx → Ctx} (s0 : At G z0 B0 H0) (n : Nx G c0 z0 B0 H0 z B H) (en : Slo B σ Γ) (h : TyI G c wi g Γ js An F) (hz : z0 + (c0 + c) ≤ 2 ^ 50)
    (Inv : Nat → Ctx → Hp → Hp → Prop)
    (h0 : ∀ z' B' H', Nx G c z B H z' B' H' → Slo B' σ Γ → Inv 0 Γ B' H')
    (up : ∀ i Γ B H H', Inv i Γ B H → Ex H H' → Inv i Γ B H')
    (hs : ∀ m, An m → ∀ Bs i Γ' z' B' H' σ', i < m → Inv i Γ' B' H' → Ex Bs B' → Nx G (c0 + c + i * cb) z0 B0 H0 z' B' H' → Slo B' σ' (F i Γ') →
      t { D with nx := Lw G z0 B0 H0 Bs (c0 + c) cb Inv (i + 1), ct := Lw G z0 B0 H0 Bs (c0 + c) cb Inv (i + 1), bk := D.nx } σ' H')
    (hd : ∀ m, An m → ∀ Γ' z' B' H' σ', Inv m Γ' B' H' → Nx G (c0 + c + m * cb) z0 B0 H0 z' B' H' → Slo B' σ' Γ' → D.nx σ' H') : tFor wi g t D σ H := by
  refine h z B σ H en n.at_ (by have := n.hi; omega) _ fun J m z1 B1 H1 am n1 src => ?_
  refine ⟨fun i k σ H => k + i = m ∧ Lw G z0 B0 H0 B1 (c0 + c) cb Inv i σ H, ⟨m, by omega, Γ, z1, B1, h0 z1 B1 H1 n1 (en.up n1.up), Ex.refl _, (n.trans s0 n1).le (by omega), en.up n1.up⟩, ?_⟩
  rintro i k σ2 H2 ⟨e, Γ2, z2, B2, i2, x2, n2, en2⟩
  rcases Nat.lt_or_ge i m with lt | ge
  · refine .inr ⟨src.go i lt H2 (x2.trans n2.at_.ex), Lw G z0 B0 H0 B1 (c0 + c) cb Inv (i + 1), fun σ' H' p => ⟨k - 1, by omega, by omega, p⟩, fun x H3 y => ?_⟩
    obtain ⟨e3, fin⟩ := src.yld i lt x H2 H3 (x2.trans n2.at_.ex) y
    refine fin σ2 Γ2 B2 en2 x2 n2.at_.ex _ fun σ' en3 _ => ?_
    exact hs m am B1 i Γ2 z2 B2 H3 σ' lt (up _ _ _ _ _ i2 e3) x2 ((n2.trans s0 (Nx.more n2.at_ e3)).le (by omega)) en3
  · cases (show i = m by omega)
    exact .inl ⟨src.stop H2 (x2.trans n2.at_.ex), hd m am Γ2 z2 B2 H2 σ2 i2 n2 en2⟩
theorem q_forS {wi : TI} {js : List Nat} {cb : Nat} {An : Nat → Prop} {F : Nat → Ctx → Ctx} (s0 : At G z0 B0 H0) (n : Nx G c0 z0 B0 H0 z B H) (en : Slo B σ Γ) (h : TyI G c wi g Γ js An F) (hz : z0 + (c0 + c) ≤ 2 ^ 50)
    (Inv : Nat → Ctx → Hp → Hp → Prop)
    (h0 : ∀ z' B' H', Nx G c z B H z' B' H' → Slo B' σ Γ → Inv 0 Γ B' H')
    (up : ∀ i Γ B H H', Inv i Γ B H → Ex H H' → Inv i Γ B H')
    (hs : ∀ m, An m → ∀ Bs i Γ' z' B' H' σ', i < m → Inv i Γ' B' H' → Ex Bs B' → Nx G (c0 + c + i * cb) z0 B0 H0 z' B' H' → Slo B' σ' (F i Γ') →
      t { D with nx := Lw G z0 B0 H0 Bs (c0 + c) cb Inv (i + 1), ct := Lw G z0 B0 H0 Bs (c0 + c) cb Inv (i + 1), bk := tz D } σ' H')
    (hd : ∀ m, An m → ∀ Γ' z' B' H' σ', Inv m Γ' B' H' → Nx G (c0 + c + m * cb) z0 B0 H0 z' B' H' → Slo B' σ' Γ' → tz D σ' H') : tSeq (tFor wi g t) tz D σ H :=
  q_for (D := { D with nx := tz D }) s0 n en h hz Inv h0 up hs hd
/-- a while, by a word that falls -/
theorem q_while {cb : Nat} (s0 : At G z0 B0 H0) (n : Nx G c0 z0 B0 H0 z B H) (en : Slo B σ Γ) (Inv : Nat → Nat → Ctx → Hp → Hp → Prop) (m0 : Nat) (h0 : Inv 0 m0 Γ B H)
    (hs : ∀ i m Γ' z' B' H' σ', Inv i m Γ' B' H' → Nx G (c0 + i * cb) z0 B0 H0 z' B' H' → Slo B' σ' Γ' →
      ∃ b, (∀ Q : Bool → Hp → Prop, (∀ z2 B2 H2, Nx G cb z' B' H' z2 B2 H2 → Slo B2 σ' Γ' → Q b H2) → tt σ' H' Q) ∧
      (b = true → ∀ z2 B2 H2, Nx G cb z' B' H' z2 B2 H2 → Slo B2 σ' Γ' → ∃ N : L2.St → Hp → Prop, (∀ σ3 H3, N σ3 H3 → ∃ m' Γ3 z3 B3, m' < m ∧ Inv (i + 1) m' Γ3 B3 H3 ∧ Nx G (c0 + (i + 1) * cb) z0 B0 H0 z3 B3 H3 ∧ Slo B3 σ3 Γ3) ∧ t { D with nx := N, ct := N, bk := D.nx } σ' H2) ∧
      (b = false → ∀ z2 B2 H2, Nx G cb z' B' H' z2 B2 H2 → Nx G (c0 + (i + 1) * cb) z0 B0 H0 z2 B2 H2 → Slo B2 σ' Γ' → D.nx σ' H2)) : tWhile tt t D σ H := by
  refine ⟨fun m σ H => ∃ i Γ z B, Inv i m Γ B H ∧ Nx G (c0 + i * cb) z0 B0 H0 z B H ∧ Slo B σ Γ, ⟨m0, 0, Γ, z, B, h0, n.le (by omega), en⟩, ?_⟩
  rintro m σ2 H2 ⟨i, Γ2, z2, B2, i2, n2, en2⟩
  obtain ⟨b, hb, k1, k2⟩ := hs i m Γ2 z2 B2 H2 σ2 i2 n2 en2
  refine hb _ fun z3 B3 H3 n3 en3 => ?_
  cases b with
  | true =>
    obtain ⟨N, hN, run⟩ := k1 rfl z3 B3 H3 n3 en3
    refine ⟨N, fun σ' H' p => ?_, run⟩
    obtain ⟨m', Γ4, z4, B4, lt, i4, n4, en4⟩ := hN σ' H' p
    exact ⟨m', lt, i + 1, Γ4, z4, B4, i4, n4, en4⟩
  | false => exact k2 rfl z3 B3 H3 n3 ((n2.trans s0 n3).le (by rw [Nat.add_mul]; omega)) en3

/-! ### comprehensions -/
/-- the turns' words: which were kept, with what -/
inductive Sel {α : Type} (T : Nat → Bool → Prop) (A : Nat → α → Prop) : Nat → List α → Prop
  | nil : Sel T A 0 []
  | no {i : Nat} {ys : List α} : Sel T A i ys → T i false → Sel T A (i + 1) ys
  | yes {i : Nat} {ys : List α} {y : α} : Sel T A i ys → T i true → A i y → Sel T A (i + 1) (ys ++ [y])
theorem Sel.len {T : Nat → Bool → Prop} {A : Nat → α → Prop} : ∀ {i : Nat} {ys : List α}, Sel T A i ys → ys.length ≤ i
  | _, _, .nil => Nat.le_refl _
  | _, _, .no h _ => Nat.le_succ_of_le (Sel.len h)
  | _, _, .yes h _ _ => by rw [List.length_append]; exact Nat.succ_le_succ (Sel.len h)
theorem ty_lc {wi : TI} {js vs : List Nat} {M ct cb : Nat} {An : Nat → Prop} {F : Nat → Ctx → Ctx} {T : Nat → Bool → Prop} {A : Nat → α → Prop} (h : TyI G c wi g Γ js An F) (hM : ∀ m, An m → m ≤ M) (hm : M ≤ 40000) (hj : ∀ j ∈ js, j ∈ vs)
    (ht : ∀ m, An m → ∀ i, i < m → TyT G ct tt (F i (wipeC Γ vs)) (T i)) (he : ∀ m, An m → ∀ i, i < m → T i true → Ty G cb te (F i (wipeC Γ vs)) (A i)) :
    Ty G (c + M * (ct + cb)) (tLc wi g tt te vs) Γ (fun ys => ∃ m, An m ∧ Sel T A m ys) := fun z B σ H en s hz Q q => by
  refine h z B σ H en s (by omega) _ fun J m z1 B1 H1 am n1 src => fun D hD => ?_
  have mM := hM m am
  have hz : z + ((c + m * (ct + cb) : Nat) : Int) ≤ 2 ^ 50 := by
    have : m * (ct + cb) ≤ M * (ct + cb) := Nat.mul_le_mul_right _ mM
    generalize m * (ct + cb) = w1 at this ⊢
    generalize M * (ct + cb) = w2 at this hz
    omega
  replace q : ∀ (x : List α) (v : V) (z' : Int) (B' H' : Hp), Sel T A m x → Nx G (c + m * (ct + cb)) z B H z' B' H' → Py.is x v B' → Q v H' := fun x v z' B' H' sx nx => q x v z' B' H' ⟨m, am, sx⟩ (nx.le (Nat.add_le_add_left (Nat.mul_le_mul_right _ mM) _))
  -- the word: the base without the new list
  refine ⟨fun i k H' => k + i = m ∧ ∃ ys us z' B', Sel T A i ys ∧ Each B' ys us ∧ H' D = some (.lst us) ∧ B' D = none ∧ Ex B1 B' ∧ Nx G (c + i * (ct + cb)) z B H z' B' H', ⟨m, by omega, [], [], z1, B1, .nil, .nil, upd_same, ?_, Ex.refl _, ?_⟩, ?_⟩
  · cases e : B1 D with
    | none => rfl
    | some o => rw [n1.at_.ex _ _ e] at hD; cases hD
  · exact (n1.trans s (Nx.more n1.at_ (Ex.new hD))).le (by omega)
  rintro i k H2 ⟨e, ys, us, z2, B2, sel, ea, hD2, nD, x2, n2⟩
  have nDH : H D = none := n1.gone s hD
  have gD : G ≠ some D := fun hg => by
    obtain ⟨_, _, _, q1, _⟩ := s.gen D hg
    rw [q1] at nDH
    cases nDH
  rcases Nat.lt_or_ge i m with lt | ge
  · have succ : (i + 1) * (ct + cb) = i * (ct + cb) + (ct + cb) := by rw [Nat.add_mul, Nat.one_mul]
    have bound : z + ((c + i * (ct + cb) + (ct + cb) : Nat) : Int) ≤ 2 ^ 50 := by
      have h1 : (i + 1) * (ct + cb) ≤ m * (ct + cb) := Nat.mul_le_mul_right _ lt
      have h2 : (i + 1) * (ct + cb) = i * (ct + cb) + (ct + cb) := by rw [Nat.add_mul, Nat.one_mul]
      rw [h2] at h1
      generalize i * (ct + cb) = w1 at h1 ⊢
      generalize m * (ct + cb) = w2 at h1 hz
      omega
    have dropNx : ∀ {z' : Int} {B' H' : Hp} {c' : Nat} (o : HO), B' D = none → Nx G c' z B H z' B' H' → Nx G c' z B H z' B' (upd H' D o) := fun {z' B' H' c'} o nB nx => by
      refine ⟨⟨fun a u ha => ?_, fun g' hg => ?_⟩, nx.up, nx.new, nx.lo, nx.hi, fun a u hg ha => ?_⟩
      · rw [upd_ne (ne_of_none ha nB)]
        exact nx.at_.ex a u ha
      · obtain ⟨q1, x, y, q2, q3⟩ := nx.at_.gen g' hg
        exact ⟨q1, x, y, by rw [upd_ne (fun z => gD (by rw [hg, z]))]; exact q2, q3⟩
      · rw [upd_ne (ne_of_none ha nDH)]
        exact nx.keep a u hg ha
    generalize hw' : i * (ct + cb) = w at n2 bound succ
    refine .inr ⟨src.go i lt H2 (x2.trans n2.at_.ex), fun H' => ∃ ys us z' B', Sel T A (i + 1) ys ∧ Each B' ys us ∧ H' D = some (.lst us) ∧ B' D = none ∧ Ex B1 B' ∧ Nx G (c + (i + 1) * (ct + cb)) z B H z' B' H', fun H' p => ⟨k - 1, by omega, by omega, p⟩, fun x H3 y => ?_⟩
    obtain ⟨e3, fin⟩ := src.yld i lt x H2 H3 (x2.trans n2.at_.ex) y
    have enB : Slo B2 (L2.wipe σ vs) (wipeC Γ vs) := (en.up n2.up).wipe vs
    refine fin (L2.wipe σ vs) (wipeC Γ vs) B2 enB x2 n2.at_.ex _ fun σ' en3 hw => ⟨?_, ?_⟩
    · have : ∀ (us : List Nat) (τ : L2.St), L2.wipe (L2.wipe τ us) us = L2.wipe τ us := by
        intro us
        induction us with
        | nil => intro τ; rfl
        | cons u us ih =>
          intro τ
          show (L2.wipe ((L2.wipe τ us).set u none) us).set u none = (L2.wipe τ us).set u none
          by_cases hu : u ∈ us
          · rw [wipe_set _ u _ us hu, ih]
          · have com : ∀ (ws : List Nat) (τ : L2.St), (L2.wipe (τ.set u none) ws).set u none = (L2.wipe τ ws).set u none := by
              intro ws
              induction ws with
              | nil => intro τ; show (τ.set u none).set u none = _; rw [List.set_set]; rfl
              | cons w ws ih2 =>
                intro τ
                show ((L2.wipe (τ.set u none) ws).set w none).set u none = ((L2.wipe τ ws).set w none).set u none
                by_cases k : w = u
                · subst k
                  rw [List.set_set, List.set_set]
                  exact ih2 τ
                · rw [List.set_comm _ _ k, List.set_comm _ _ k, ih2]
            rw [com us, ih]
      rw [hw vs hj, this]
    have n3 : Nx G (c + w) z B H z2 B2 H3 := (n2.trans s (Nx.more n2.at_ e3)).le (by omega)
    have keepD : ∀ {c' : Nat} {za zb : Int} {Ba Bb Ha Hb : Hp} {vs : List V}, Nx G c' za Ba Ha zb Bb Hb → Ha D = some (.lst vs) → Ba D = none → Hb D = some (.lst vs) ∧ Bb D = none := fun {c' za zb Ba Bb Ha Hb vs} nx hd hb => by
      refine ⟨nx.keep D _ gD hd, ?_⟩
      cases e : Bb D with
      | none => rfl
      | some o =>
        rcases nx.new D o e with h | h
        · rw [hb] at h; cases h
        · rw [hd] at h; cases h
    refine ht m am i lt z2 B2 σ' H3 en3 n3.at_ (by have := n3.hi; omega) _ fun b z4 B4 H4 tb n4 => ?_
    obtain ⟨hD4, nD4⟩ := keepD n4 (e3 D _ hD2) nD
    cases b with
    | false =>
      show ∃ ys us z' B', _
      refine ⟨ys, us, z4, B4, .no sel tb, ea.ex n4.up, hD4, nD4, x2.trans n4.up, (n3.trans s n4).le (by rw [succ]; omega)⟩
    | true =>
      show te σ' H4 fun y H5 => _
      refine he m am i lt tb z4 B4 σ' H4 (en3.up n4.up) n4.at_ (by have := n3.hi; have := n4.hi; omega) _ fun y v z5 B5 H5 ay n5 hv => ?_
      obtain ⟨hD5, nD5⟩ := keepD n5 hD4 nD4
      refine ⟨us, hD5, sz_lt (by rw [ea.len]; have := sel.len; omega), ys ++ [y], us ++ [v], z5, B5, .yes sel tb ay, ((ea.ex n4.up).ex n5.up).snoc hv, upd_same, nD5, (x2.trans n4.up).trans n5.up, dropNx _ nD5 (((n3.trans s n4).trans s n5).le (by rw [succ]; omega))⟩
  · cases (show i = m by omega)
    refine .inl ⟨src.stop H2 (x2.trans n2.at_.ex), ?_⟩
    refine q ys (.ref D) z2 (upd B2 D (.lst us)) H2 sel ⟨⟨fun a u ha => ?_, fun g' hg => ?_⟩, n2.up.trans (Ex.new nD), fun a u ha => ?_, n2.lo, n2.hi, n2.keep⟩ ⟨D, us, rfl, upd_same, ea.ex (Ex.new nD)⟩
    · by_cases e : a = D
      · subst e
        rw [upd_same] at ha
        rw [hD2, ha]
      · rw [upd_ne e] at ha
        exact n2.at_.ex a u ha
    · obtain ⟨q1, q2⟩ := n2.at_.gen g' hg
      exact ⟨by rw [upd_ne (fun z => gD (by rw [hg, z]))]; exact q1, q2⟩
    · by_cases e : a = D
      · subst e
        exact .inr nDH
      · rw [upd_ne e] at ha
        exact n2.new a u ha
/-- all is told -/
theorem sel_det {T : Nat → Bool → Prop} {A : Nat → α → Prop} (p : Nat → Bool) (f : Nat → α) (hT : ∀ i b, T i b → b = p i) (hA : ∀ i y, A i y → y = f i) :
    ∀ {m : Nat} {ys : List α}, Sel T A m ys → ys = ((List.range m).filter p).map f
  | _, _, .nil => rfl
  | _, _, .no (i := i) h t => by
    have ih := sel_det p f hT hA h
    have e := hT i false t
    rw [List.range_succ, List.filter_append, List.map_append, ← ih, List.filter_cons, if_neg (by rw [← e]; decide)]
    show _ = _ ++ []
    rw [List.append_nil]
  | _, _, .yes (i := i) h t a => by
    have ih := sel_det p f hT hA h
    have e := hT i true t
    rw [List.range_succ, List.filter_append, List.map_append, ← ih, List.filter_cons, if_pos e.symm, hA i _ a] <;> rfl
end
end AP

set_option maxHeartbeats 4000000
/-! A def's promise by its body; calls of such defs; values of any kind. -/
namespace AP
open PySem PySem.Spec PyProof.Rows L2 Evl
section
variable {P : Program} {w : World} {K : PySem.W.Frag} {mg : Str → Option Value} {base : Heap} {ι β : Type} [Py β]
/-- the rest of a def's body: what it has to come to -/
abbrev Back (C : Con ι β) (i : ι) (G : Option Addr) (z0 : Int) (B0 H0 : Hp) (Q : VK) : Prop :=
  ∀ y w z' B' H', C.post i y → Nx G (C.c i) z0 B0 H0 z' B' H' → Py.is y w B' → Q w H'
theorem con_go {x qual : Str} {st : Stmt} {f : Addr} {fd : FuncData} {N ps : List Str} {k : Nat}
    (F : Df K x qual st [] f fd) (S : FnScope N ps (defScope st)) (C : Con ι β) (hl : ∀ i, (C.args i).length = ps.length)
    (body : ∀ (cdv : Value) (A : Around) (outer : List PySem.Env) (s : Shared) (H : Hp) (E : XK) (i : ι) (G : Option Addr) (z0 : Int) (B0 : Hp),
      Room k (A.deeper (envOfC qual (defScope st) s.heap.objs.size f cdv)) → C.pre i G → At G z0 B0 H → z0 + C.c i ≤ 2 ^ 50 →
        ∃ t, PSs (cxOf CX0 P w K mg base N qual (defScope st) f cdv A outer s H E).nox (defBody st) t ∧
          ∀ (σ : L2.St) (Q : VK), Slo B0 σ (ctx0 N.length (C.args i)) → Back C i G z0 B0 H Q → t { nx := fun _ H' => Q .non H', rt := Q } σ H) :
    FnOk P w K mg base CX0 (k + 1) f fd ps C.sp := by
  refine F.go S (fun vs H Q E h => ?_) (fun cdv A outer s H vs Q E hr h => ?_)
  · obtain ⟨i, _, _, _, al, _⟩ := h
    rw [al.len]
    exact hl i
  · obtain ⟨i, G, z0, B0, al, hp, at0, hz, q⟩ := h
    obtain ⟨t, ht, run⟩ := body cdv A outer s H E i G z0 B0 hr hp at0 hz
    exact ⟨t, ht, run _ Q (Slo.start al) q⟩
theorem con_goG {x qual : Str} {st : Stmt} {f : Addr} {fd : FuncData} {N ps : List Str} {k : Nat}
    (F : Df K x qual st [] f fd) (S : FnScope N ps (defScope st)) (C : Con ι β) (hl : ∀ i, (C.args i).length = ps.length)
    (body : ∀ (cdv : Value) (A : Around) (outer : List PySem.Env) (s : Shared) (H : Hp) (E : XK) (i : ι) (G : Option Addr) (z0 : Int) (B0 : Hp),
      (A.deeper (envOfC qual (defScope st) s.heap.objs.size f cdv)).guards = some [] →
      Room k (A.deeper (envOfC qual (defScope st) s.heap.objs.size f cdv)) → C.pre i G → At G z0 B0 H → z0 + C.c i ≤ 2 ^ 50 →
        ∃ t, PSs (cxOf CX0 P w K mg base N qual (defScope st) f cdv A outer s H E).nox (defBody st) t ∧
          ∀ (σ : L2.St) (Q : VK), Slo B0 σ (ctx0 N.length (C.args i)) → Back C i G z0 B0 H Q → t { nx := fun _ H' => Q .non H', rt := Q } σ H) :
    FnG P w K mg base CX0 (k + 1) f fd ps C.sp := by
  refine F.goG S (fun vs H Q E h => ?_) (fun cdv A outer s H vs Q E ng hr h => ?_)
  · obtain ⟨i, _, _, _, al, _⟩ := h
    rw [al.len]
    exact hl i
  · obtain ⟨i, G, z0, B0, al, hp, at0, hz, q⟩ := h
    obtain ⟨t, ht, run⟩ := body cdv A outer s H E i G z0 B0 ng hr hp at0 hz
    exact ⟨t, ht, run _ Q (Slo.start al) q⟩
/-- a def of the text that keeps its promise: all that a caller needs -/
structure Fo (P : Program) (w : World) (K : PySem.W.Frag) (mg : Str → Option Value) (base : Heap) (x : Str) (k : Nat) (ps : List Str) (sp : Sp) : Prop where
  ex : ∃ (f : Addr) (fd : FuncData), mg x = some (.ref f) ∧ PySem.W.keepIn K (.ref f) = true ∧ Binds K fd ps [] ∧
    (∀ (s : Shared) (ws : List Value), K.In s.heap → ws.length = ps.length → BindsTo s fd ⟨[], ps.reverse.zip ws⟩ (ps.zip ws.reverse)) ∧ FnOk P w K mg base CX0 k f fd ps sp
theorem Fo.mk' {x qual : Str} {st : Stmt} {f : Addr} {fd : FuncData} {ps : List Str} {k : Nat} {sp : Sp} (F : Df K x qual st [] f fd) (m : mg x = some (.ref f)) (G : FnOk P w K mg base CX0 k f fd ps sp)
    (b : ∀ (kV doc pm : Value) (an : Option Addr) (cdv ct : Value) (us : List Value), us.length = ps.length → bindArgs (PySem.W.fnOf x qual (defArgs st) (defBody st) (defScope st) .none kV doc pm an cdv ct) ⟨us, []⟩ = pure (ps.zip us))
    (bk : ∀ (kV doc pm : Value) (an : Option Addr) (cdv ct : Value) (us : List Value), us.length = ps.length → bindArgs (PySem.W.fnOf x qual (defArgs st) (defBody st) (defScope st) .none kV doc pm an cdv ct) ⟨[], ps.reverse.zip us⟩ = pure (ps.zip us.reverse)) :
    Fo P w K mg base x k ps sp := by
  refine ⟨f, fd, m, F.kp, FunD.bindsN F b, fun s ws _ hl => ?_, G⟩
  obtain ⟨oc, od, dV, kV, doc, pm, an, cdv, ct, osl, rfl, lk, hcd, hD, hK⟩ := F.ex
  rcases hD with ⟨_, rfl⟩ | ⟨e, _⟩
  · exact .of_eq (bk kV doc pm an cdv ct ws hl)
  · exact absurd rfl e
theorem Fo.mono {x : Str} {j k : Nat} {ps : List Str} {sp : Sp} (F : Fo P w K mg base x j ps sp) (h : j ≤ k) : Fo P w K mg base x k ps sp := by
  obtain ⟨f, fd, a, b, c, d, e⟩ := F.ex
  exact ⟨f, fd, a, b, c, d, e.mono h⟩
end
section
variable {X : Cx} {k : Nat} {ps : List Str} {sp : Sp} {x : Str} {p pos : Pos} {e : Expr} {es : List Expr} {t : TA}
theorem pe_fo (F : Fo X.prog X.w X.K X.mg X.base x k ps sp) (hr : Room k X.A) (hg : Gl X x) (ha : PA X (e :: es) t) (hdb : (x == ("__debug__" : Str)) = false := by decide)
    (he : starEach (e :: es) X.env = (false, eval e X.env) :: starEach es X.env := by rfl)
    (hpl : (backTo pos (starEach es X.env)).any (·.1) = false := by rfl) :
    PE X (.Call (.Name x p) (e :: es) [] pos) (tCall sp [] (fun _ _ _ => False) t) := by
  obtain ⟨f, fd, m, kp, b, _, G⟩ := F.ex
  exact pe_call G hr hg m kp b .nil pass0 ha hdb he hpl
/-- all arguments by their names, the last one first -/
theorem pe_fok {kws : List Keyword} {tk : TA} (F : Fo X.prog X.w X.K X.mg X.base x k ps sp) (hr : Room k X.A) (hg : Gl X x) (hkw : PK X kws tk) (hdb : (x == ("__debug__" : Str)) = false := by decide)
    (hall : (backToKw pos (keywordEach kws X.env)).all (·.1.isSome) = true := by rfl) (hks : (backToKw pos (keywordEach kws X.env)).filterMap (·.1) = ps.reverse := by rfl)
    (hpl : ((backTo pos (starEach [] X.env)).any (·.1) || (backToKw pos (keywordEach kws X.env)).any (·.1.isNone)) = false := by rfl) :
    PE X (.Call (.Name x p) [] kws pos) (tCallK sp (fun _ ks => ks.reverse) (fun _ _ _ => False) tNil tk) := by
  obtain ⟨f, fd, m, kp, _, kb, G⟩ := F.ex
  refine ⟨fun pins s σ H Q I h => wpAny_Call_Name_kw (ld_glob I hg m ?_ hdb)⟩
  refine PySem.W.callWith_KW0 (h₀ := X.base) I.ok.mod.kin kp hall (thn (hkw.run pos pins s σ H _ I h) fun ws s2 hs => ?_) hpl
  obtain ⟨zs, H2, I2, rz, q⟩ := hs
  refine ⟨I2.kIn, ?_⟩
  rw [hks]
  have rr : Vals zs.reverse ws.reverse := by
    have : ∀ {zs : List V} {ws : List Value}, Vals zs ws → Vals zs.reverse ws.reverse := by
      intro zs ws h
      induction h with
      | nil => exact .nil
      | cons r _ ih =>
        rw [List.reverse_cons, List.reverse_cons]
        exact ih.append (.cons r .nil)
    exact this rz
  have hl : ws.length = ps.length := by
    have h1 := G.len _ _ _ _ q
    have h2 := rz.length
    rw [List.length_reverse] at h1
    omega
  refine wpAny_call (codeAny_mono (G.run X.A X.stack s2 H2 ⟨[], ps.reverse.zip ws⟩ ws.reverse zs.reverse Q _ hr I2.env0 (kb s2 ws I2.kIn hl) rr q) fun r s' hq => ?_)
  cases r with
  | error e => exact hq.elim
  | ok fl =>
    cases fl with
    | ret u => exact I2.after hq
    | next => exact hq.elim
    | brk => exact hq.elim
    | cont => exact hq.elim
end
section
variable {K : PySem.W.Frag} {G : Option Addr} {c c1 c2 c3 : Nat} {te ta tb tx : TE} {tt : TT} {Γ : Ctx} {ι α β : Type} [Py α] [Py β] {A : α → Prop} {tr : TA} {B B' H : Hp} {v w : V}
/-- keywords in turn, told from behind -/
theorem Alls.rev : ∀ {Ps : List VP} {vs : List V}, Alls B Ps vs → Alls B Ps.reverse vs.reverse
  | _, _, .nil => .nil
  | _, _, .cons st h r => by
    rw [List.reverse_cons, List.reverse_cons]
    exact (Alls.rev r).app (.cons st h .nil)
theorem ty_callR {C : Con ι β} {E : XK} {tk : TA} (i : ι) (hk : TyA G c tk Γ (C.args i).reverse) (p : C.pre i G) : Ty G (0 + c + C.c i) (tCallK C.sp (fun _ ks => ks.reverse) E tNil tk) Γ (C.post i) :=
  ty_callK i ta_nil hk p fun vs ks B _ al => by
    have := al.rev
    rw [List.reverse_reverse] at this
    exact this
/-! ### comprehensions, all told -/
theorem ty_lcL {xs : List α} {p : α → Bool} {f : α → β} {tl : TE} {j : Nat} {vs : List Nat} (h : Ty G c tl Γ (· = xs)) (hm : xs.length ≤ 40000) (hj : j ∈ vs)
    (ht : ∀ x, x ∈ xs → TyT G 0 tt ((wipeC Γ vs).set j (some (Py.is x))) (· = p x)) (he : ∀ x, x ∈ xs → p x = true → Ty G 0 te ((wipeC Γ vs).set j (some (Py.is x))) (· = f x)) :
    Ty G c (tLc (iList K tl) (gName j) tt te vs) Γ (· = (xs.filter p).map f) := by
  refine Ty.le (c1 := c + xs.length * (0 + 0)) ?_ (by simp)
  refine (ty_lc (T := fun i b => ∃ x, xs[i]? = some x ∧ b = p x) (A := fun i y => ∃ x, xs[i]? = some x ∧ y = f x) (M := xs.length) (ti_list h) (fun m e => Nat.le_of_eq e) hm (by simpa using hj) (fun m em i hi => ?_) fun m em i hi hp => ?_).imp fun ys ⟨m, em, sel⟩ => ?_
  · subst em
    have e := List.getElem?_eq_getElem hi
    rw [itm_eq e]
    exact (ht _ (List.getElem_mem hi)).imp fun b q => ⟨_, e, q⟩
  · subst em
    have e := List.getElem?_eq_getElem hi
    rw [itm_eq e]
    obtain ⟨x, e2, q⟩ := hp
    rw [e] at e2
    cases e2
    exact (he _ (List.getElem_mem hi) q.symm).imp fun b q => ⟨_, e, q⟩
  · subst em
    have key : ∀ (m : Nat) (ys : List β), Sel (fun i b => ∃ x, xs[i]? = some x ∧ b = p x) (fun i y => ∃ x, xs[i]? = some x ∧ y = f x) m ys → ys = ((xs.take m).filter p).map f := by
      intro m ys sel
      induction sel with
      | nil => rfl
      | no h t ih =>
        obtain ⟨x, e, q⟩ := t
        rw [List.take_add_one, e, List.filter_append, List.map_append, ← ih]
        show _ = _ ++ List.map f (List.filter p [x])
        rw [List.filter_cons, if_neg (by rw [← q]; decide)]
        show _ = _ ++ []
        rw [List.append_nil]
      | yes h t a ih =>
        obtain ⟨x, e, q⟩ := t
        obtain ⟨x', e', q'⟩ := a
        rw [e] at e'
        cases e'
        rw [List.take_add_one, e, List.filter_append, List.map_append, ← ih]
        show _ = _ ++ List.map f (List.filter p [x])
        rw [List.filter_cons, if_pos q.symm, q'] <;> rfl
    have := key _ _ sel
    rw [List.take_length] at this
    exact this
theorem ty_lcM {xs : List α} {f : α → β} {tl : TE} {j : Nat} {vs : List Nat} (h : Ty G c tl Γ (· = xs)) (hm : xs.length ≤ 40000) (hj : j ∈ vs)
    (he : ∀ x, x ∈ xs → Ty G 0 te ((wipeC Γ vs).set j (some (Py.is x))) (· = f x)) :
    Ty G c (tLc (iList K tl) (gName j) tYes te vs) Γ (· = xs.map f) :=
  (ty_lcL (p := fun _ => true) h hm hj (fun x _ => tt_yes) fun x hx _ => he x hx).to (by rw [List.filter_eq_self.mpr fun _ _ => rfl])
theorem ty_lcR2 {lo n : Int} {p : Int → Bool} {f : Int → β} {j : Nat} {vs : List Nat} (h : TyA G c tr Γ [Py.is lo, Py.is n]) (h1 : -(2 ^ 62) ≤ lo ∧ lo < 2 ^ 62) (hn : -(2 ^ 62) ≤ n ∧ n < 2 ^ 62) (hm : (n - lo).toNat ≤ 40000) (hj : j ∈ vs)
    (ht : ∀ x, lo ≤ x → x < n → TyT G 0 tt ((wipeC Γ vs).set j (some (Py.is x))) (· = p x)) (he : ∀ x, lo ≤ x → x < n → p x = true → Ty G 0 te ((wipeC Γ vs).set j (some (Py.is x))) (· = f x)) :
    Ty G c (tLc (iRng2 tr) (gName j) tt te vs) Γ (· = (((List.range (n - lo).toNat).map fun i : Nat => lo + (i : Int)).filter p).map f) := by
  refine Ty.le (c1 := c + (n - lo).toNat * (0 + 0)) ?_ (by simp)
  refine (ty_lc (T := fun i b => b = p (lo + (i : Int))) (A := fun i y => y = f (lo + (i : Int))) (M := (n - lo).toNat) (ti_rng2 h h1 hn) (fun m e => Nat.le_of_eq e) hm (by simpa using hj) (fun m em i hi => ht _ (by omega) (by omega)) fun m em i hi hp => he _ (by omega) (by omega) hp.symm).imp fun ys ⟨m, em, sel⟩ => ?_
  subst em
  rw [sel_det (fun i => p (lo + (i : Int))) (fun i => f (lo + (i : Int))) (fun _ _ q => q) (fun _ _ q => q) sel, List.filter_map, List.map_map]
  rfl
theorem ty_lcR1 {n : Int} {p : Int → Bool} {f : Int → β} {j : Nat} {vs : List Nat} (h : TyA G c tr Γ [Py.is n]) (hn : -(2 ^ 62) ≤ n ∧ n < 2 ^ 62) (hm : n.toNat ≤ 40000) (hj : j ∈ vs)
    (ht : ∀ x, 0 ≤ x → x < n → TyT G 0 tt ((wipeC Γ vs).set j (some (Py.is x))) (· = p x)) (he : ∀ x, 0 ≤ x → x < n → p x = true → Ty G 0 te ((wipeC Γ vs).set j (some (Py.is x))) (· = f x)) :
    Ty G c (tLc (iRng1 tr) (gName j) tt te vs) Γ (· = (((List.range n.toNat).map fun i : Nat => (i : Int)).filter p).map f) := by
  refine Ty.le (c1 := c + n.toNat * (0 + 0)) ?_ (by simp)
  refine (ty_lc (T := fun i b => b = p (i : Int)) (A := fun i y => y = f (i : Int)) (M := n.toNat) (ti_rng1 h hn) (fun m e => Nat.le_of_eq e) hm (by simpa using hj) (fun m em i hi => ht _ (by omega) (by omega)) fun m em i hi hp => he _ (by omega) (by omega) hp.symm).imp fun ys ⟨m, em, sel⟩ => ?_
  subst em
  rw [sel_det (fun i => p (i : Int)) (fun i => f (i : Int)) (fun _ _ q => q) (fun _ _ q => q) sel, List.filter_map, List.map_map]
  rfl
end

/-! ### values of any kind -/
inductive Dat where
  | non
  | bl (b : Bool)
  | int (n : Int)
  | str (s : Str)
  | lst (ds : List Dat)
  | tup (ds : List Dat)
  | dic
mutual
inductive DatV (B : Hp) : Dat → V → Prop
  | non : DatV B .non .non
  | bl (b : Bool) : DatV B (.bl b) (.bl b)
  | int (n : Int) : DatV B (.int n) (.int n)
  | str (s : Str) : DatV B (.str s) (.str s)
  | lst {p : Addr} {vs : List V} {ds : List Dat} : B p = some (.lst vs) → DatVs B ds vs → DatV B (.lst ds) (.ref p)
  | tup {p : Addr} {vs : List V} {ds : List Dat} : B p = some (.tup vs) → DatVs B ds vs → DatV B (.tup ds) (.ref p)
  | dic {p : Addr} {kvs : List (Key × V)} : B p = some (.dK kvs) → DatV B .dic (.ref p)
inductive DatVs (B : Hp) : List Dat → List V → Prop
  | nil : DatVs B [] []
  | cons {d : Dat} {v : V} {ds : List Dat} {vs : List V} : DatV B d v → DatVs B ds vs → DatVs B (d :: ds) (v :: vs)
end
mutual
theorem DatV.ex {B B' : Hp} (e : Ex B B') : ∀ {d : Dat} {v : V}, DatV B d v → DatV B' d v
  | _, _, .non => .non
  | _, _, .bl b => .bl b
  | _, _, .int n => .int n
  | _, _, .str s => .str s
  | _, _, .lst h r => .lst (e _ _ h) (DatVs.ex e r)
  | _, _, .tup h r => .tup (e _ _ h) (DatVs.ex e r)
  | _, _, .dic h => .dic (e _ _ h)
theorem DatVs.ex {B B' : Hp} (e : Ex B B') : ∀ {d : List Dat} {v : List V}, DatVs B d v → DatVs B' d v
  | _, _, .nil => .nil
  | _, _, .cons h r => .cons (DatV.ex e h) (DatVs.ex e r)
end
instance : Py Dat := ⟨fun d v B => DatV B d v, fun _ _ _ _ e h => DatV.ex e h⟩
theorem DatVs.each {B : Hp} : ∀ {ds : List Dat} {vs : List V}, DatVs B ds vs → Each B ds vs
  | _, _, .nil => .nil
  | _, _, .cons h r => .cons h (DatVs.each r)
theorem Each.dats {B : Hp} : ∀ {ds : List Dat} {vs : List V}, Each B ds vs → DatVs B ds vs
  | _, _, .nil => .nil
  | _, _, .cons h r => .cons h (Each.dats r)
theorem dat_lst {ds : List Dat} {v : V} {B : Hp} (h : Py.is ds v B) : Py.is (Dat.lst ds) v B := by
  obtain ⟨p, vs, rfl, h1, h2⟩ := h
  exact .lst h1 h2.dats
theorem lst_dat {ds : List Dat} {v : V} {B : Hp} (h : Py.is (Dat.lst ds) v B) : Py.is ds v B := by
  cases (show DatV B (.lst ds) v from h) with
  | lst h1 h2 => exact ⟨_, _, rfl, h1, h2.each⟩
theorem dat_int {n : Int} {v : V} {B : Hp} (h : Py.is n v B) : Py.is (Dat.int n) v B := by
  cases (show v = .int n from h)
  exact .int n
theorem int_dat {n : Int} {v : V} {B : Hp} (h : Py.is (Dat.int n) v B) : Py.is n v B := by
  cases (show DatV B (.int n) v from h)
  rfl
theorem ints_dats {ns : List Int} {v : V} {B : Hp} (h : Py.is ns v B) : Py.is (ns.map Dat.int) v B := by
  obtain ⟨p, vs, rfl, h1, h2⟩ := h
  refine ⟨p, vs, rfl, h1, ?_⟩
  clear h1
  induction h2 with
  | nil => exact .nil
  | cons h _ ih => exact .cons (dat_int h) ih
theorem dats_ints {ns : List Int} {v : V} {B : Hp} (h : Py.is (ns.map Dat.int) v B) : Py.is ns v B := by
  obtain ⟨p, vs, rfl, h1, h2⟩ := h
  refine ⟨p, vs, rfl, h1, ?_⟩
  clear h1
  generalize hd : ns.map Dat.int = ds at h2
  induction h2 generalizing ns with
  | nil =>
    cases ns with
    | nil => exact .nil
    | cons _ _ => cases hd
  | cons h _ ih =>
    cases ns with
    | nil => cases hd
    | cons n r =>
      rw [List.map_cons] at hd
      injection hd with e1 e2
      subst e1
      exact .cons (int_dat h) (ih e2)
/-! ### isinstance -/
inductive Tn where
  | int | bool | list | tuple
def Tn.name : Tn → String
  | .int => "int" | .bool => "bool" | .list => "list" | .tuple => "tuple"
def Dat.isT : Dat → Tn → Bool
  | .bl _, .int => true
  | .bl _, .bool => true
  | .int _, .int => true
  | .lst _, .list => true
  | .tup _, .tuple => true
  | _, _ => false
theorem dat_kit {K : PySem.W.Frag} {B H : Hp} (e : Ex B H) {d : Dat} {v : V} (h : DatV B d v) (T : Tn) : ∃ t, TyX K H v t ∧ PySem.W.kitOne K t (.type T.name) = some (d.isT T) := by
  have k1 : ∀ T : Tn, kitB "NoneType" T.name = some (Dat.non.isT T) := fun T => by cases T <;> decide +kernel
  have k2 : ∀ T : Tn, kitB "bool" T.name = some ((Dat.bl true).isT T) := fun T => by cases T <;> decide +kernel
  have k3 : ∀ T : Tn, kitB "int" T.name = some ((Dat.int 0).isT T) := fun T => by cases T <;> decide +kernel
  have k4 : ∀ T : Tn, kitB "str" T.name = some ((Dat.str "").isT T) := fun T => by cases T <;> decide +kernel
  have k5 : ∀ T : Tn, kitB "list" T.name = some ((Dat.lst []).isT T) := fun T => by cases T <;> decide +kernel
  have k6 : ∀ T : Tn, kitB "tuple" T.name = some ((Dat.tup []).isT T) := fun T => by cases T <;> decide +kernel
  have k7 : ∀ T : Tn, kitB "dict" T.name = some (Dat.dic.isT T) := fun T => by cases T <;> decide +kernel
  cases h with
  | non => exact ⟨_, .base .non, kit_ty (k1 T)⟩
  | bl b => exact ⟨_, .base (.bl b), kit_ty (by have := k2 T; cases T <;> exact this)⟩
  | int n => exact ⟨_, .base (.int n), kit_ty (by have := k3 T; cases T <;> exact this)⟩
  | str s => exact ⟨_, .base (.str s), kit_ty (by have := k4 T; cases T <;> exact this)⟩
  | lst h _ => exact ⟨_, .base (.lst (e _ _ h)), kit_ty (by have := k5 T; cases T <;> exact this)⟩
  | tup h _ => exact ⟨_, .base (.tup (e _ _ h)), kit_ty (by have := k6 T; cases T <;> exact this)⟩
  | dic h => exact ⟨_, .base (.dK (e _ _ h)), kit_ty (k7 T)⟩
section
variable {K : PySem.W.Frag} {G : Option Addr} {c c1 c2 c3 : Nat} {te ta tb tx : TE} {Γ : Ctx} {α : Type} [Py α]
theorem ty_isi {d : Dat} (T : Tn) (h : Ty G c ta Γ (· = d)) : Ty G (c + (0 + 0)) (tCB (rIsi K) (tCons ta (tCons (tC (.ty T.name)) tNil))) Γ (· = d.isT T) := fun z B σ H en s hz Q q =>
  h z B σ H en s (by omega) _ fun x v z' B' H' ex n hv => by
    subst ex
    obtain ⟨t, h1, h2⟩ := dat_kit (K := K) n.at_.ex hv T
    exact ⟨v, _, t, _, _, rfl, .ty _, h1, h2, q _ _ z' B' H' rfl (n.le (by omega)) rfl⟩
end
end AP

set_option maxHeartbeats 4000000
/-! What the program's judging defs say, as functions of Lean; rules for values of any kind. -/
namespace AP
open PySem PySem.Spec PyProof.Rows L2 Evl
def Dat.whole : Dat → Bool
  | .int _ => true
  | _ => false
theorem Dat.whole_eq (d : Dat) : (d.isT .int && !d.isT .bool) = d.whole := by cases d <;> rfl
def Dat.toI : Dat → Int
  | .int n => n
  | _ => 0
theorem Dat.whole_int {d : Dat} (h : d.whole = true) : d = .int d.toI := by cases d <;> first | rfl | cases h
def Dat.within (lo hi : Int) : Dat → Bool
  | .int n => decide (lo ≤ n) && decide (n ≤ hi)
  | _ => false
theorem Dat.within_eq (lo hi : Int) (d : Dat) : d.within lo hi = (d.whole && (decide (lo ≤ d.toI) && decide (d.toI ≤ hi))) := by cases d <;> rfl
theorem Dat.within_whole {lo hi : Int} {d : Dat} (h : d.within lo hi = true) : d.whole = true := by cases d <;> first | rfl | cases h
theorem Dat.within_int {lo hi : Int} {d : Dat} (h : d.within lo hi = true) : lo ≤ d.toI ∧ d.toI ≤ hi := by
  rw [Dat.within_eq] at h
  simp only [Bool.and_eq_true, decide_eq_true_eq] at h
  exact h.2
def top (w : Int) : Int := 2 ^ w.toNat - 1
/-- a word of the width -/
def Dat.word (w : Int) (d : Dat) : Bool := d.within 0 (top w)
def Dat.small : Dat → Prop
  | .lst ds => ds.length ≤ 30000
  | _ => True
def wordsB (w : Int) : Dat → Bool
  | .lst ds => ds.all (Dat.word w)
  | _ => false
def climbs (ns : List Int) : Bool := (List.range (ns.length - 1)).all fun i => decide (ns.getD i 0 < ns.getD (i + 1) 0)
def placesB (w : Int) : Dat → Bool
  | .lst ds => ds.all (Dat.word w) && (decide (0 < ds.length) && climbs (ds.map Dat.toI))
  | _ => false
def wordsAtB (w : Int) (many : Nat) : Dat → Bool
  | .lst ds => ds.all (Dat.word w) && decide (ds.length = many)
  | _ => false
def knownOneB (w : Int) (ps : List Int) : Dat → Bool
  | .tup [a, b] => a.whole && (decide (a.toI ∈ ps) && b.word w)
  | _ => false
def Dat.fst : Dat → Dat
  | .tup (a :: _) => a
  | _ => .non
def knownB (w : Int) (ps : List Int) : Dat → Bool
  | .lst ds => ds.all (knownOneB w ps) && climbs (ds.map fun d => d.fst.toI)
  | _ => false
/-! contracts -/
def nop {ι : Type} : ι → Option Addr → Prop := fun _ _ => True
def cWhole : Con Dat Bool := ⟨fun d => [Py.is d], nop, fun _ => 0, fun d b => b = d.whole⟩
def cBetween : Con (Dat × Int × Int) Bool := ⟨fun i => [Py.is i.1, Py.is i.2.1, Py.is i.2.2], nop, fun _ => 0, fun i b => b = i.1.within i.2.1 i.2.2⟩
def cFitsWidth : Con Dat Bool := ⟨fun d => [Py.is d], nop, fun _ => 0, fun d b => b = d.within 1 64⟩
def wOk (w : Int) : Prop := 1 ≤ w ∧ w ≤ 64
def cFitsWord : Con (Int × Dat) Bool := ⟨fun i => [Py.is i.1, Py.is i.2], fun i _ => wOk i.1, fun _ => 0, fun i b => b = i.2.word i.1⟩
def cAreWords : Con (Int × Dat) Bool := ⟨fun i => [Py.is i.1, Py.is i.2], fun i _ => wOk i.1 ∧ i.2.small, fun _ => 0, fun i b => b = wordsB i.1 i.2⟩
def cClimbs : Con (List Int) Bool := ⟨fun i => [Py.is i], fun i _ => i.length ≤ 30000, fun _ => 0, fun i b => b = climbs i⟩
def cArePlaces : Con (Int × Dat) Bool := ⟨fun i => [Py.is i.1, Py.is i.2], fun i _ => wOk i.1 ∧ i.2.small, fun _ => 0, fun i b => b = placesB i.1 i.2⟩
def cWordsAt : Con (Int × List Int × Dat) Bool := ⟨fun i => [Py.is i.1, Py.is i.2.1, Py.is i.2.2], fun i _ => wOk i.1 ∧ i.2.2.small, fun _ => 0, fun i b => b = wordsAtB i.1 i.2.1.length i.2.2⟩
def cKnownOne : Con (Int × List Int × Dat) Bool := ⟨fun i => [Py.is i.1, Py.is i.2.1, Py.is i.2.2], fun i _ => wOk i.1, fun _ => 0, fun i b => b = knownOneB i.1 i.2.1 i.2.2⟩
def cKnown : Con (Int × List Int × Dat) Bool := ⟨fun i => [Py.is i.1, Py.is i.2.1, Py.is i.2.2], fun i _ => wOk i.1 ∧ i.2.2.small, fun _ => 0, fun i b => b = knownB i.1 i.2.1 i.2.2⟩
/-- good places -/
def Places (w : Int) (ps : List Int) : Prop := placesB w (.lst (ps.map Dat.int)) = true ∧ ps.length ≤ 30000
def cNeedWidth : Con Int Unit := ⟨fun w => [Py.is w], fun w _ => wOk w, fun _ => 0, fun _ _ => True⟩
def cNeedPlaces : Con (Int × List Int) Unit := ⟨fun i => [Py.is i.1, Py.is i.2], fun i _ => wOk i.1 ∧ Places i.1 i.2, fun _ => 0, fun _ _ => True⟩
def cIsWidth : Con Dat Bool := ⟨fun d => [Py.is d], nop, fun _ => 0, fun d b => b = d.within 1 64⟩
def cIsWord : Con (Int × Dat) Bool := cFitsWord
def cIsPlaces : Con (Int × Dat) Bool := cArePlaces
def cIsWords : Con (Int × List Int × Dat) Bool := ⟨fun i => [Py.is i.1, Py.is i.2.1, Py.is i.2.2], fun i _ => wOk i.1 ∧ Places i.1 i.2.1 ∧ i.2.2.small, fun _ => 0, fun i b => b = wordsAtB i.1 i.2.1.length i.2.2⟩
def cIsKnown : Con (Int × List Int × Dat) Bool := ⟨fun i => [Py.is i.1, Py.is i.2.1, Py.is i.2.2], fun i _ => wOk i.1 ∧ Places i.1 i.2.1 ∧ i.2.2.small, fun _ => 0, fun i b => b = knownB i.1 i.2.1 i.2.2⟩
/-! rules -/
section
variable {K : PySem.W.Frag} {G : Option Addr} {c c1 c2 c3 : Nat} {te ta tb tx : TE} {tt tu : TT} {Γ : Ctx} {α β : Type} [Py α] [Py β] {tr : TA} {B B' H : Hp} {v w : V} {i j : Int}
theorem Ty.datInt {n : Int} (h : Ty G c te Γ (· = n)) : Ty G c te Γ (· = Dat.int n) := h.cast fun _ _ => dat_int
theorem Ty.intDat {n : Int} (h : Ty G c te Γ (· = Dat.int n)) : Ty G c te Γ (· = n) := h.cast fun _ _ => int_dat
theorem Ty.datLst {ds : List Dat} (h : Ty G c te Γ (· = ds)) : Ty G c te Γ (· = Dat.lst ds) := h.cast fun _ _ => dat_lst
theorem Ty.lstDat {ds : List Dat} (h : Ty G c te Γ (· = Dat.lst ds)) : Ty G c te Γ (· = ds) := h.cast fun _ _ => lst_dat
theorem Ty.datInts {ns : List Int} (h : Ty G c te Γ (· = ns)) : Ty G c te Γ (· = ns.map Dat.int) := h.cast fun _ _ => ints_dats
theorem Ty.datBl {b : Bool} (h : Ty G c te Γ (· = b)) : Ty G c te Γ (· = Dat.bl b) := h.cast fun v B q => by
  cases (show v = .bl b from q)
  exact .bl b
theorem Ty.datStr {b : Str} (h : Ty G c te Γ (· = b)) : Ty G c te Γ (· = Dat.str b) := h.cast fun v B q => by
  cases (show v = .str b from q)
  exact .str b
theorem Ty.datNon (h : Ty G c te Γ (· = ())) : Ty G c te Γ (· = Dat.non) := h.cast fun v B q => by
  cases (show v = .non from q)
  exact .non
theorem Ty.intOf {d : Dat} (h : Ty G c te Γ (· = d)) (hw : d.whole = true) : Ty G c te Γ (· = d.toI) := h.cast fun v B q => by
  rw [Dat.whole_int hw] at q
  exact int_dat q
theorem all_ints : ∀ {ds : List Dat}, (∀ d, d ∈ ds → d.whole = true) → ds = (ds.map Dat.toI).map Dat.int
  | [], _ => rfl
  | d :: r, h => by
    rw [List.map_cons, List.map_cons, ← all_ints fun d hd => h d (List.mem_cons_of_mem _ hd), ← Dat.whole_int (h d List.mem_cons_self)]
theorem words_whole {w : Int} {ds : List Dat} (h : ds.all (Dat.word w) = true) : ∀ d, d ∈ ds → d.whole = true := fun d hd => Dat.within_whole (List.all_eq_true.mp h d hd)
theorem Ty.intsOf {ds : List Dat} (h : Ty G c te Γ (· = Dat.lst ds)) (hw : ∀ d, d ∈ ds → d.whole = true) : Ty G c te Γ (· = ds.map Dat.toI) := h.lstDat.cast fun v B q => by
  rw [all_ints hw] at q
  exact dats_ints q
theorem atI_in {ns : List Int} {i : Int} (h0 : 0 ≤ i) (h1 : i < ns.length) : atI ns i = some (ns.getD i.toNat 0) := by
  unfold atI ixN
  rw [if_pos h0, if_pos h1]
  show ns[i.toNat]? = _
  have lt : i.toNat < ns.length := by omega
  rw [List.getElem?_eq_getElem lt, List.getD_eq_getElem?_getD, List.getElem?_eq_getElem lt] <;> rfl
theorem climbs_eq (ns : List Int) : (((((List.range ((ns.length : Int) - 1).toNat).map fun i : Nat => 1 + (i : Int)).filter fun _ => true).map fun x : Int => decide (ns.getD (x - 1).toNat 0 < ns.getD x.toNat 0)).all id) = climbs ns := by
  rw [List.filter_eq_self.mpr fun _ _ => rfl, List.map_map, List.all_map]
  unfold climbs
  rw [show ((ns.length : Int) - 1).toNat = ns.length - 1 by omega]
  congr 1
  funext i
  show decide (ns.getD (1 + (i : Int) - 1).toNat 0 < ns.getD (1 + (i : Int)).toNat 0) = _
  rw [show (1 + (i : Int) - 1).toNat = i by omega, show (1 + (i : Int)).toNat = i + 1 by omega]
/-- a chain whose third part is asked only where it is known what it is -/
theorem ty_chainD {p p' : Int → Int → Bool} {k : Int} {tc : TE} (ha : Ty G c1 ta Γ (· = i)) (hb : Ty G c2 tb Γ (· = j)) (hc : Ty G c3 tc Γ (· = k)) :
    Ty G (c1 + c2 + c3) (tChain (rI0 fun a b => .bl (p a b)) (rI0 fun a b => .bl (p' a b)) ta tb tc) Γ (· = (p i j && p' j k)) := ty_chain ha hb hc
/-- 1 << w -/
theorem ty_shl (h : Ty G c te Γ (· = i)) (h0 : 0 ≤ i ∧ i ≤ 1000) : Ty G (0 + c) (tOp (rI CPow fun a b => .int (a * 2 ^ b.toNat)) (tC (.int 1)) te) Γ (· = (2 : Int) ^ i.toNat) :=
  (ty_I (f := fun a b => a * 2 ^ b.toNat) ty_i h (show CPow 1 i from ⟨h0.1, by omega, by decide⟩)).to (by show (1 : Int) * 2 ^ i.toNat = 2 ^ i.toNat; rw [Int.one_mul])
theorem ty_lenT {ds : List Dat} (h : Ty G c ta Γ (· = Dat.tup ds)) : Ty G (c + 0) (tCB (rLenS K) (tCons ta tNil)) Γ (· = (ds.length : Int)) :=
  ty_cb (ta_cons h ta_nil) fun vs B al z B' H e s Q q => by
    obtain ⟨v, rfl, hv⟩ := al.one
    cases (show DatV B (.tup ds) v from hv) with
    | tup h1 h2 =>
      refine ⟨_, _, rfl, Or.inr (st_of (s.ex _ _ (e _ _ h1))), q _ _ z B' H rfl (.refl s) ?_⟩
      show V.int _ = V.int _
      rw [h2.each.len]
theorem ty_ixT {ds : List Dat} {d : Dat} (ha : Ty G c1 ta Γ (· = Dat.tup ds)) (hb : Ty G c2 tb Γ (· = i)) (hx : atI ds i = some d) : Ty G (c1 + c2) (tOp (rIxT K) ta tb) Γ (· = d) :=
  ty_op ha hb fun x y v w B ex ey hv hw z B' H e s Q q => by
    subst ex ey
    cases (show w = .int y from hw)
    cases (show DatV B (.tup ds) v from hv) with
    | tup h1 h2 =>
      obtain ⟨u, e2, hu⟩ := h2.each.at hx
      exact ⟨_, _, y, u, rfl, rfl, st_of (s.ex _ _ (e _ _ h1)), e2, q _ u z B' H rfl (.refl s) (Py.st _ _ _ _ e hu)⟩
/-- == [], != [], whatever the list holds -/
def rEqNil (K : PySem.W.Frag) : R2 := fun x y H Q => ∃ p q xs, x = .ref p ∧ y = .ref q ∧ SqL K H p xs ∧ SqL K H q [] ∧ Q (.bl xs.isEmpty) H
def rNeNil (K : PySem.W.Frag) : R2 := fun x y H Q => ∃ p q xs, x = .ref p ∧ y = .ref q ∧ SqL K H p xs ∧ SqL K H q [] ∧ Q (.bl !xs.isEmpty) H
theorem ty_eqNil {xs : List α} (ha : Ty G c ta Γ (· = xs)) : Ty G (c + 0) (tOp (rEqNil K) ta (tLst tNil)) Γ (· = xs.isEmpty) :=
  ty_op ha (ty_nil (α := Int)) fun x y v w B ex ey hv hw z B' H e s Q q => by
    obtain ⟨p, us, rfl, h1, h2⟩ := hv
    obtain ⟨p', us', rfl, h1', h2'⟩ := hw
    subst ex ey
    cases h2'
    refine ⟨p, p', us, rfl, rfl, sq_of (s.ex _ _ (e _ _ h1)), sq_of (s.ex _ _ (e _ _ h1')), q _ _ z B' H rfl (.refl s) ?_⟩
    show V.bl _ = V.bl _
    have := h2.len
    cases us with
    | nil => cases x with
      | nil => rfl
      | cons _ _ => cases this
    | cons _ _ => cases x with
      | nil => cases this
      | cons _ _ => rfl
theorem ty_neNil {xs : List α} (ha : Ty G c ta Γ (· = xs)) : Ty G (c + 0) (tOp (rNeNil K) ta (tLst tNil)) Γ (· = !xs.isEmpty) :=
  ty_op ha (ty_nil (α := Int)) fun x y v w B ex ey hv hw z B' H e s Q q => by
    obtain ⟨p, us, rfl, h1, h2⟩ := hv
    obtain ⟨p', us', rfl, h1', h2'⟩ := hw
    subst ex ey
    cases h2'
    refine ⟨p, p', us, rfl, rfl, sq_of (s.ex _ _ (e _ _ h1)), sq_of (s.ex _ _ (e _ _ h1')), q _ _ z B' H rfl (.refl s) ?_⟩
    show V.bl _ = V.bl _
    have := h2.len
    cases us with
    | nil => cases x with
      | nil => rfl
      | cons _ _ => cases this
    | cons _ _ => cases x with
      | nil => cases this
      | cons _ _ => rfl
end
section
variable {X : Cx}
open PySem.SeqAt in
theorem op_eqNil (hu : X.A.units < cLine) : OpR X (compareOp .Eq) (rEqNil X.K) := by
  intro pins s σ H x y v u Q I rx ry h
  obtain ⟨p, q, xs, rfl, rfl, hp, hq, go⟩ := h
  cases rx
  cases ry
  obtain ⟨us, r1, ⟨o1, n1, g1, c1, d1, e1⟩, _⟩ := I.list hp
  obtain ⟨ws, r2, ⟨o2, n2, g2, c2, d2, e2⟩, _⟩ := I.list hq
  cases r2
  have fin : EP X pins σ Q (.bool xs.isEmpty) s := ⟨.bl xs.isEmpty, H, I, rfl, go⟩
  show wpAny _ _ (richCompare .Eq _ _) _ _ _
  cases r1 with
  | nil =>
    exact RcAt.lists (e := fun _ => true) ⟨o1, g1, c1, n1, e1⟩ ⟨o2, g2, c2, n2, e2⟩ rfl hu (fun j h1 _ => absurd h1 (by simp)) X.prog X.w _ _ fin
  | cons a b =>
    exact RcAt.lists_lengths ⟨o1, g1, c1, n1, e1⟩ ⟨o2, g2, c2, n2, e2⟩ (by simp) hu X.prog X.w _ _ fin
open PySem.SeqAt in
theorem op_neNil (hu : X.A.units < cLine) : OpR X (compareOp .NotEq) (rNeNil X.K) := by
  intro pins s σ H x y v u Q I rx ry h
  obtain ⟨p, q, xs, rfl, rfl, hp, hq, go⟩ := h
  cases rx
  cases ry
  obtain ⟨us, r1, ⟨o1, n1, g1, c1, d1, e1⟩, _⟩ := I.list hp
  obtain ⟨ws, r2, ⟨o2, n2, g2, c2, d2, e2⟩, _⟩ := I.list hq
  cases r2
  have fin : EP X pins σ Q (.bool !xs.isEmpty) s := ⟨.bl !xs.isEmpty, H, I, rfl, go⟩
  show wpAny _ _ (richCompare .NotEq _ _) _ _ _
  cases r1 with
  | nil =>
    exact RcNeAt.lists (e := fun _ => true) ⟨o1, g1, c1, n1, e1⟩ ⟨o2, g2, c2, n2, e2⟩ rfl hu (fun j h1 _ => absurd h1 (by simp)) X.prog X.w _ _ fin
  | cons a b =>
    exact RcNeAt.lists_lengths ⟨o1, g1, c1, n1, e1⟩ ⟨o2, g2, c2, n2, e2⟩ (by simp) hu X.prog X.w _ _ fin
end
end AP

set_option maxHeartbeats 4000000
/-! Calls of the judging defs. -/
namespace AP
open PySem PySem.Spec PyProof.Rows L2 Evl
section
variable {G : Option Addr} {c0 c1 c2 c3 : Nat} {t0 t1 t2 t3 : TE} {Γ : Ctx}
theorem y_whole {d : Dat} {E : XK} (h0 : Ty G c0 t0 Γ (· = d))  : Ty G ((c0 + 0) + 0) (tCall cWhole.sp [] E (tCons t0 tNil)) Γ (· = d.whole) := ty_call (C := cWhole) d (ta_cons h0 ta_nil) trivial
theorem k_whole {d : Dat} {E : XK} (h0 : Ty G c0 t0 Γ (· = d))  : Ty G (0 + (c0 + 0) + 0) (tCallK cWhole.sp (fun _ ks => ks.reverse) E tNil (tCons t0 tNil)) Γ (· = d.whole) := ty_callR (C := cWhole) d (ta_cons h0 ta_nil) trivial
theorem y_between {d : Dat} {lo : Int} {hi : Int} {E : XK} (h0 : Ty G c0 t0 Γ (· = d)) (h1 : Ty G c1 t1 Γ (· = lo)) (h2 : Ty G c2 t2 Γ (· = hi))  : Ty G ((c0 + (c1 + (c2 + 0))) + 0) (tCall cBetween.sp [] E (tCons t0 (tCons t1 (tCons t2 tNil)))) Γ (· = d.within lo hi) := ty_call (C := cBetween) (d, lo, hi) (ta_cons h0 (ta_cons h1 (ta_cons h2 ta_nil))) trivial
theorem k_between {d : Dat} {lo : Int} {hi : Int} {E : XK} (h0 : Ty G c0 t0 Γ (· = d)) (h1 : Ty G c1 t1 Γ (· = lo)) (h2 : Ty G c2 t2 Γ (· = hi))  : Ty G (0 + (c2 + (c1 + (c0 + 0))) + 0) (tCallK cBetween.sp (fun _ ks => ks.reverse) E tNil (tCons t2 (tCons t1 (tCons t0 tNil)))) Γ (· = d.within lo hi) := ty_callR (C := cBetween) (d, lo, hi) (ta_cons h2 (ta_cons h1 (ta_cons h0 ta_nil))) trivial
theorem y_fitsWidth {d : Dat} {E : XK} (h0 : Ty G c0 t0 Γ (· = d))  : Ty G ((c0 + 0) + 0) (tCall cFitsWidth.sp [] E (tCons t0 tNil)) Γ (· = d.within 1 64) := ty_call (C := cFitsWidth) d (ta_cons h0 ta_nil) trivial
theorem k_fitsWidth {d : Dat} {E : XK} (h0 : Ty G c0 t0 Γ (· = d))  : Ty G (0 + (c0 + 0) + 0) (tCallK cFitsWidth.sp (fun _ ks => ks.reverse) E tNil (tCons t0 tNil)) Γ (· = d.within 1 64) := ty_callR (C := cFitsWidth) d (ta_cons h0 ta_nil) trivial
theorem y_fitsWord {w : Int} {d : Dat} {E : XK} (h0 : Ty G c0 t0 Γ (· = w)) (h1 : Ty G c1 t1 Γ (· = d)) (p : wOk w) : Ty G ((c0 + (c1 + 0)) + 0) (tCall cFitsWord.sp [] E (tCons t0 (tCons t1 tNil))) Γ (· = d.word w) := ty_call (C := cFitsWord) (w, d) (ta_cons h0 (ta_cons h1 ta_nil)) p
theorem k_fitsWord {w : Int} {d : Dat} {E : XK} (h0 : Ty G c0 t0 Γ (· = w)) (h1 : Ty G c1 t1 Γ (· = d)) (p : wOk w) : Ty G (0 + (c1 + (c0 + 0)) + 0) (tCallK cFitsWord.sp (fun _ ks => ks.reverse) E tNil (tCons t1 (tCons t0 tNil))) Γ (· = d.word w) := ty_callR (C := cFitsWord) (w, d) (ta_cons h1 (ta_cons h0 ta_nil)) p
theorem y_areWords {w : Int} {d : Dat} {E : XK} (h0 : Ty G c0 t0 Γ (· = w)) (h1 : Ty G c1 t1 Γ (· = d)) (p : wOk w ∧ d.small) : Ty G ((c0 + (c1 + 0)) + 0) (tCall cAreWords.sp [] E (tCons t0 (tCons t1 tNil))) Γ (· = wordsB w d) := ty_call (C := cAreWords) (w, d) (ta_cons h0 (ta_cons h1 ta_nil)) p
theorem k_areWords {w : Int} {d : Dat} {E : XK} (h0 : Ty G c0 t0 Γ (· = w)) (h1 : Ty G c1 t1 Γ (· = d)) (p : wOk w ∧ d.small) : Ty G (0 + (c1 + (c0 + 0)) + 0) (tCallK cAreWords.sp (fun _ ks => ks.reverse) E tNil (tCons t1 (tCons t0 tNil))) Γ (· = wordsB w d) := ty_callR (C := cAreWords) (w, d) (ta_cons h1 (ta_cons h0 ta_nil)) p
theorem y_climbs {ns : List Int} {E : XK} (h0 : Ty G c0 t0 Γ (· = ns)) (p : ns.length ≤ 30000) : Ty G ((c0 + 0) + 0) (tCall cClimbs.sp [] E (tCons t0 tNil)) Γ (· = climbs ns) := ty_call (C := cClimbs) ns (ta_cons h0 ta_nil) p
theorem k_climbs {ns : List Int} {E : XK} (h0 : Ty G c0 t0 Γ (· = ns)) (p : ns.length ≤ 30000) : Ty G (0 + (c0 + 0) + 0) (tCallK cClimbs.sp (fun _ ks => ks.reverse) E tNil (tCons t0 tNil)) Γ (· = climbs ns) := ty_callR (C := cClimbs) ns (ta_cons h0 ta_nil) p
theorem y_arePlaces {w : Int} {d : Dat} {E : XK} (h0 : Ty G c0 t0 Γ (· = w)) (h1 : Ty G c1 t1 Γ (· = d)) (p : wOk w ∧ d.small) : Ty G ((c0 + (c1 + 0)) + 0) (tCall cArePlaces.sp [] E (tCons t0 (tCons t1 tNil))) Γ (· = placesB w d) := ty_call (C := cArePlaces) (w, d) (ta_cons h0 (ta_cons h1 ta_nil)) p
theorem k_arePlaces {w : Int} {d : Dat} {E : XK} (h0 : Ty G c0 t0 Γ (· = w)) (h1 : Ty G c1 t1 Γ (· = d)) (p : wOk w ∧ d.small) : Ty G (0 + (c1 + (c0 + 0)) + 0) (tCallK cArePlaces.sp (fun _ ks => ks.reverse) E tNil (tCons t1 (tCons t0 tNil))) Γ (· = placesB w d) := ty_callR (C := cArePlaces) (w, d) (ta_cons h1 (ta_cons h0 ta_nil)) p
theorem y_wordsAt {w : Int} {ns : List Int} {d : Dat} {E : XK} (h0 : Ty G c0 t0 Γ (· = w)) (h1 : Ty G c1 t1 Γ (· = ns)) (h2 : Ty G c2 t2 Γ (· = d)) (p : wOk w ∧ d.small) : Ty G ((c0 + (c1 + (c2 + 0))) + 0) (tCall cWordsAt.sp [] E (tCons t0 (tCons t1 (tCons t2 tNil)))) Γ (· = wordsAtB w ns.length d) := ty_call (C := cWordsAt) (w, ns, d) (ta_cons h0 (ta_cons h1 (ta_cons h2 ta_nil))) p
theorem k_wordsAt {w : Int} {ns : List Int} {d : Dat} {E : XK} (h0 : Ty G c0 t0 Γ (· = w)) (h1 : Ty G c1 t1 Γ (· = ns)) (h2 : Ty G c2 t2 Γ (· = d)) (p : wOk w ∧ d.small) : Ty G (0 + (c2 + (c1 + (c0 + 0))) + 0) (tCallK cWordsAt.sp (fun _ ks => ks.reverse) E tNil (tCons t2 (tCons t1 (tCons t0 tNil)))) Γ (· = wordsAtB w ns.length d) := ty_callR (C := cWordsAt) (w, ns, d) (ta_cons h2 (ta_cons h1 (ta_cons h0 ta_nil))) p
theorem y_knownOne {w : Int} {ns : List Int} {d : Dat} {E : XK} (h0 : Ty G c0 t0 Γ (· = w)) (h1 : Ty G c1 t1 Γ (· = ns)) (h2 : Ty G c2 t2 Γ (· = d)) (p : wOk w) : Ty G ((c0 + (c1 + (c2 + 0))) + 0) (tCall cKnownOne.sp [] E (tCons t0 (tCons t1 (tCons t2 tNil)))) Γ (· = knownOneB w ns d) := ty_call (C := cKnownOne) (w, ns, d) (ta_cons h0 (ta_cons h1 (ta_cons h2 ta_nil))) p
theorem k_knownOne {w : Int} {ns : List Int} {d : Dat} {E : XK} (h0 : Ty G c0 t0 Γ (· = w)) (h1 : Ty G c1 t1 Γ (· = ns)) (h2 : Ty G c2 t2 Γ (· = d)) (p : wOk w) : Ty G (0 + (c2 + (c1 + (c0 + 0))) + 0) (tCallK cKnownOne.sp (fun _ ks => ks.reverse) E tNil (tCons t2 (tCons t1 (tCons t0 tNil)))) Γ (· = knownOneB w ns d) := ty_callR (C := cKnownOne) (w, ns, d) (ta_cons h2 (ta_cons h1 (ta_cons h0 ta_nil))) p
theorem y_known {w : Int} {ns : List Int} {d : Dat} {E : XK} (h0 : Ty G c0 t0 Γ (· = w)) (h1 : Ty G c1 t1 Γ (· = ns)) (h2 : Ty G c2 t2 Γ (· = d)) (p : wOk w ∧ d.small) : Ty G ((c0 + (c1 + (c2 + 0))) + 0) (tCall cKnown.sp [] E (tCons t0 (tCons t1 (tCons t2 tNil)))) Γ (· = knownB w ns d) := ty_call (C := cKnown) (w, ns, d) (ta_cons h0 (ta_cons h1 (ta_cons h2 ta_nil))) p
theorem k_known {w : Int} {ns : List Int} {d : Dat} {E : XK} (h0 : Ty G c0 t0 Γ (· = w)) (h1 : Ty G c1 t1 Γ (· = ns)) (h2 : Ty G c2 t2 Γ (· = d)) (p : wOk w ∧ d.small) : Ty G (0 + (c2 + (c1 + (c0 + 0))) + 0) (tCallK cKnown.sp (fun _ ks => ks.reverse) E tNil (tCons t2 (tCons t1 (tCons t0 tNil)))) Γ (· = knownB w ns d) := ty_callR (C := cKnown) (w, ns, d) (ta_cons h2 (ta_cons h1 (ta_cons h0 ta_nil))) p
theorem y_needWidth {w : Int} {E : XK} (h0 : Ty G c0 t0 Γ (· = w)) (p : wOk w) : Ty G ((c0 + 0) + 0) (tCall cNeedWidth.sp [] E (tCons t0 tNil)) Γ (fun _ : Unit => True) := ty_call (C := cNeedWidth) w (ta_cons h0 ta_nil) p
theorem k_needWidth {w : Int} {E : XK} (h0 : Ty G c0 t0 Γ (· = w)) (p : wOk w) : Ty G (0 + (c0 + 0) + 0) (tCallK cNeedWidth.sp (fun _ ks => ks.reverse) E tNil (tCons t0 tNil)) Γ (fun _ : Unit => True) := ty_callR (C := cNeedWidth) w (ta_cons h0 ta_nil) p
theorem y_needPlaces {w : Int} {ns : List Int} {E : XK} (h0 : Ty G c0 t0 Γ (· = w)) (h1 : Ty G c1 t1 Γ (· = ns)) (p : wOk w ∧ Places w ns) : Ty G ((c0 + (c1 + 0)) + 0) (tCall cNeedPlaces.sp [] E (tCons t0 (tCons t1 tNil))) Γ (fun _ : Unit => True) := ty_call (C := cNeedPlaces) (w, ns) (ta_cons h0 (ta_cons h1 ta_nil)) p
theorem k_needPlaces {w : Int} {ns : List Int} {E : XK} (h0 : Ty G c0 t0 Γ (· = w)) (h1 : Ty G c1 t1 Γ (· = ns)) (p : wOk w ∧ Places w ns) : Ty G (0 + (c1 + (c0 + 0)) + 0) (tCallK cNeedPlaces.sp (fun _ ks => ks.reverse) E tNil (tCons t1 (tCons t0 tNil))) Γ (fun _ : Unit => True) := ty_callR (C := cNeedPlaces) (w, ns) (ta_cons h1 (ta_cons h0 ta_nil)) p
theorem y_isWidth {d : Dat} {E : XK} (h0 : Ty G c0 t0 Γ (· = d))  : Ty G ((c0 + 0) + 0) (tCall cIsWidth.sp [] E (tCons t0 tNil)) Γ (· = d.within 1 64) := ty_call (C := cIsWidth) d (ta_cons h0 ta_nil) trivial
theorem k_isWidth {d : Dat} {E : XK} (h0 : Ty G c0 t0 Γ (· = d))  : Ty G (0 + (c0 + 0) + 0) (tCallK cIsWidth.sp (fun _ ks => ks.reverse) E tNil (tCons t0 tNil)) Γ (· = d.within 1 64) := ty_callR (C := cIsWidth) d (ta_cons h0 ta_nil) trivial
theorem y_isWord {w : Int} {d : Dat} {E : XK} (h0 : Ty G c0 t0 Γ (· = w)) (h1 : Ty G c1 t1 Γ (· = d)) (p : wOk w) : Ty G ((c0 + (c1 + 0)) + 0) (tCall cIsWord.sp [] E (tCons t0 (tCons t1 tNil))) Γ (· = d.word w) := ty_call (C := cIsWord) (w, d) (ta_cons h0 (ta_cons h1 ta_nil)) p
theorem k_isWord {w : Int} {d : Dat} {E : XK} (h0 : Ty G c0 t0 Γ (· = w)) (h1 : Ty G c1 t1 Γ (· = d)) (p : wOk w) : Ty G (0 + (c1 + (c0 + 0)) + 0) (tCallK cIsWord.sp (fun _ ks => ks.reverse) E tNil (tCons t1 (tCons t0 tNil))) Γ (· = d.word w) := ty_callR (C := cIsWord) (w, d) (ta_cons h1 (ta_cons h0 ta_nil)) p
theorem y_isPlaces {w : Int} {d : Dat} {E : XK} (h0 : Ty G c0 t0 Γ (· = w)) (h1 : Ty G c1 t1 Γ (· = d)) (p : wOk w ∧ d.small) : Ty G ((c0 + (c1 + 0)) + 0) (tCall cIsPlaces.sp [] E (tCons t0 (tCons t1 tNil))) Γ (· = placesB w d) := ty_call (C := cIsPlaces) (w, d) (ta_cons h0 (ta_cons h1 ta_nil)) p
theorem k_isPlaces {w : Int} {d : Dat} {E : XK} (h0 : Ty G c0 t0 Γ (· = w)) (h1 : Ty G c1 t1 Γ (· = d)) (p : wOk w ∧ d.small) : Ty G (0 + (c1 + (c0 + 0)) + 0) (tCallK cIsPlaces.sp (fun _ ks => ks.reverse) E tNil (tCons t1 (tCons t0 tNil))) Γ (· = placesB w d) := ty_callR (C := cIsPlaces) (w, d) (ta_cons h1 (ta_cons h0 ta_nil)) p
theorem y_isWords {w : Int} {ns : List Int} {d : Dat} {E : XK} (h0 : Ty G c0 t0 Γ (· = w)) (h1 : Ty G c1 t1 Γ (· = ns)) (h2 : Ty G c2 t2 Γ (· = d)) (p : wOk w ∧ Places w ns ∧ d.small) : Ty G ((c0 + (c1 + (c2 + 0))) + 0) (tCall cIsWords.sp [] E (tCons t0 (tCons t1 (tCons t2 tNil)))) Γ (· = wordsAtB w ns.length d) := ty_call (C := cIsWords) (w, ns, d) (ta_cons h0 (ta_cons h1 (ta_cons h2 ta_nil))) p
theorem k_isWords {w : Int} {ns : List Int} {d : Dat} {E : XK} (h0 : Ty G c0 t0 Γ (· = w)) (h1 : Ty G c1 t1 Γ (· = ns)) (h2 : Ty G c2 t2 Γ (· = d)) (p : wOk w ∧ Places w ns ∧ d.small) : Ty G (0 + (c2 + (c1 + (c0 + 0))) + 0) (tCallK cIsWords.sp (fun _ ks => ks.reverse) E tNil (tCons t2 (tCons t1 (tCons t0 tNil)))) Γ (· = wordsAtB w ns.length d) := ty_callR (C := cIsWords) (w, ns, d) (ta_cons h2 (ta_cons h1 (ta_cons h0 ta_nil))) p
theorem y_isKnown {w : Int} {ns : List Int} {d : Dat} {E : XK} (h0 : Ty G c0 t0 Γ (· = w)) (h1 : Ty G c1 t1 Γ (· = ns)) (h2 : Ty G c2 t2 Γ (· = d)) (p : wOk w ∧ Places w ns ∧ d.small) : Ty G ((c0 + (c1 + (c2 + 0))) + 0) (tCall cIsKnown.sp [] E (tCons t0 (tCons t1 (tCons t2 tNil)))) Γ (· = knownB w ns d) := ty_call (C := cIsKnown) (w, ns, d) (ta_cons h0 (ta_cons h1 (ta_cons h2 ta_nil))) p
theorem k_isKnown {w : Int} {ns : List Int} {d : Dat} {E : XK} (h0 : Ty G c0 t0 Γ (· = w)) (h1 : Ty G c1 t1 Γ (· = ns)) (h2 : Ty G c2 t2 Γ (· = d)) (p : wOk w ∧ Places w ns ∧ d.small) : Ty G (0 + (c2 + (c1 + (c0 + 0))) + 0) (tCallK cIsKnown.sp (fun _ ks => ks.reverse) E tNil (tCons t2 (tCons t1 (tCons t0 tNil)))) Γ (· = knownB w ns d) := ty_callR (C := cIsKnown) (w, ns, d) (ta_cons h2 (ta_cons h1 (ta_cons h0 ta_nil))) p
end
end AP

set_option maxHeartbeats 4000000
/-! Draws. -/
namespace AP
open PySem PySem.Spec PyProof.Rows L2 Evl
def cRandom : Con (Addr × Int) Int := ⟨fun i => [Py.is (GenR.mk i.1), Py.is i.2], fun i G => G = some i.1 ∧ 0 < i.2 ∧ i.2.natAbs < 2 ^ 8999, fun _ => 300, fun i n => 0 ≤ n ∧ n < i.2⟩
theorem random_con {P : Program} {w : World} {K : PySem.W.Frag} {mg : Str → Option Value} {base : Heap} {k : Nat} {f : Addr} {fd : FuncData} {ps : List Str}
    (F : FnOk P w K mg base CX0 k f fd ps spRandom) : FnOk P w K mg base CX0 k f fd ps cRandom.sp := F.imp fun vs H Q E h => by
  obtain ⟨⟨g, b⟩, G, z, B, al, ⟨eG, hb, hb'⟩, at0, hz, q⟩ := h
  subst eG
  obtain ⟨v, w, rfl, hv, hw⟩ := al.two
  cases (show v = .ref g from hv)
  cases (show w = .int b from hw)
  obtain ⟨nB, x, y, hg, hx, hy, hy', hz0⟩ := at0.gen g rfl
  have hz' : z + 300 ≤ 2 ^ 50 := hz
  refine ⟨g, b, x, y, z, rfl, ⟨hg, hx, hy, hz0, by omega⟩, hb, hb', fun n x' z' H' n0 n1 hg' oth hzz => ?_⟩
  refine q n (.int n) z' B H' ⟨n0, n1⟩ ⟨⟨fun a o e => ?_, fun g' e => ?_⟩, Ex.refl _, fun _ _ h => .inl h, hzz, by have := hg'.2.2.2.2; show z' ≤ z + 300; omega, fun a o hne h => ?_⟩ rfl
  · rw [oth a (ne_of_none e nB)]
    exact at0.ex a o e
  · cases e
    exact ⟨nB, x', y, hg'.1, hg'.2.1, hy, hy', hg'.2.2.2.1⟩
  · rw [oth a fun e => hne (congrArg some e.symm)]
    exact h
section
variable {K : PySem.W.Frag} {G : Option Addr} {c c0 c1 c2 : Nat} {t0 t1 te ta tb : TE} {Γ : Ctx} {g : Addr} {b : Int} {tr : TA} {α : Type} [Py α]
theorem y_random {E : XK} (h0 : Ty (some g) c0 t0 Γ (· = GenR.mk g)) (h1 : Ty (some g) c1 t1 Γ (· = b)) (p : 0 < b ∧ b.natAbs < 2 ^ 8999) :
    Ty (some g) (c0 + (c1 + 0) + 300) (tCall cRandom.sp [] E (tCons t0 (tCons t1 tNil))) Γ (fun n : Int => 0 ≤ n ∧ n < b) :=
  ty_call (C := cRandom) (g, b) (ta_cons h0 (ta_cons h1 ta_nil)) ⟨rfl, p⟩
theorem small_b {b : Int} (h : 0 < b) (h1 : b ≤ 2 ^ 200) : 0 < b ∧ b.natAbs < 2 ^ 8999 := by
  refine ⟨h, ?_⟩
  have e : ((2 : Int) ^ 200) = ((2 ^ 200 : Nat) : Int) := by norm_cast
  have h2 : b.natAbs ≤ 2 ^ 200 := by omega
  exact Nat.lt_of_le_of_lt h2 (Nat.pow_lt_pow_right (by decide) (by decide))
theorem ti_rng1N {A : Int → Prop} {j : Nat} (h : TyA G c tr Γ [isA A]) (hn : ∀ n, A n → -(2 ^ 62) ≤ n ∧ n < 2 ^ 62) : TyI G c (iRng1 tr) (gName j) Γ [j] (fun m => ∃ n, A n ∧ m = n.toNat) (fun i Γ => Γ.set j (some (Py.is (i : Int)))) := fun z B σ H en s hz R r => by
  refine h z B σ H en s hz _ fun vs z1 B1 H1 al n1 => ?_
  obtain ⟨v, rfl, n, an, hv⟩ := al.one
  cases (show v = .int n from hv)
  exact ⟨n, rfl, (hn n an).1, (hn n an).2, r _ _ z1 B1 H1 ⟨n, an, rfl⟩ n1 (src_name (fun i => Py.stays (i : Int)) (fun H e => Nat.le_refl _) (fun i hi H e => hi) fun i hi x' H H' e y => ⟨y.1, by rw [y.2]; show V.int _ = V.int _; rw [Int.zero_add]⟩)⟩
/-! powers -/
def cPower : Con (Int × Int) Int := ⟨fun i => [Py.is i.1, Py.is i.2], fun i _ => 0 ≤ i.2 ∧ i.2 ≤ 1000 ∧ i.1.natAbs < 2 ^ 200, fun _ => 0, fun i n => n = i.1 ^ i.2.toNat⟩
theorem y_power {E : XK} {n t : Int} (h0 : Ty G c0 t0 Γ (· = n)) (h1 : Ty G c1 t1 Γ (· = t)) (p : 0 ≤ t ∧ t ≤ 1000 ∧ n.natAbs < 2 ^ 200) : Ty G (c0 + (c1 + 0) + 0) (tCall cPower.sp [] E (tCons t0 (tCons t1 tNil))) Γ (· = n ^ t.toNat) :=
  ty_call (C := cPower) (n, t) (ta_cons h0 (ta_cons h1 ta_nil)) p
theorem pow_lt {n : Int} {a : Nat} (h : n.natAbs < 2 ^ a) (i : Nat) : (n ^ i).natAbs < 2 ^ (a * i + 1) := by
  rw [Int.natAbs_pow]
  have h1 : n.natAbs ^ i ≤ (2 ^ a) ^ i := Nat.pow_le_pow_left (Nat.le_of_lt h) i
  rw [← Nat.pow_mul] at h1
  exact Nat.lt_of_le_of_lt h1 (Nat.pow_lt_pow_right (by decide) (Nat.lt_succ_self _))
theorem mul_pow {n : Int} (h : n.natAbs < 2 ^ 200) {i : Nat} (hi : i ≤ 1000) : CMulW (n ^ i) n := wide_mul (pow_lt h i) h (by omega) (by decide) (by omega)
theorem two_pow (t : Int) (h : 0 ≤ t) (h1 : t ≤ 200) : (0 : Int) < 2 ^ t.toNat ∧ (2 : Int) ^ t.toNat ≤ 2 ^ 200 := by
  have e : ∀ k : Nat, ((2 : Int) ^ k) = ((2 ^ k : Nat) : Int) := fun k => by norm_cast
  rw [e, e]
  have a := Nat.two_pow_pos t.toNat
  have b : 2 ^ t.toNat ≤ 2 ^ 200 := Nat.pow_le_pow_right (by decide) (by omega)
  omega
theorem q_noret {G : Option Addr} {A : Bool → Prop} : True := trivial
end
end AP

set_option maxHeartbeats 4000000
/-! Lists that are not told one by one; pairs; dicts made on the way. -/
namespace AP
open PySem PySem.Spec PyProof.Rows L2 Evl
section
variable {K : PySem.W.Frag} {G : Option Addr} {c c0 c1 c2 c3 : Nat} {te ta tb tx t0 t1 : TE} {tt tu : TT} {Γ : Ctx} {α β : Type} [Py α] [Py β] {tr : TA} {B B' H : Hp} {v w : V} {i j : Int} {σ : L2.St}
theorem ti_listN {A : List α → Prop} {P : α → Prop} {tl : TE} {j : Nat} (h : Ty G c tl Γ A) (hp : ∀ xs, A xs → ∀ x ∈ xs, P x) :
    TyI G c (iList K tl) (gName j) Γ [j] (fun m => ∃ xs, A xs ∧ m = xs.length) (fun _ Γ => Γ.set j (some (isA P))) := fun z B σ H en s hz R r => by
  refine h z B σ H en s hz _ fun xs v z1 B1 H1 ax n1 hv => ?_
  obtain ⟨p, us, rfl, e1, e2⟩ := hv
  refine ⟨p, rfl, ⟨us, sq_of (n1.at_.ex _ _ e1)⟩, r _ _ z1 B1 H1 ⟨xs, ax, rfl⟩ n1 (src_name (f := fun _ => isA P) (fun _ => isA.stays P) (fun H e => ⟨us, sq_of (e _ _ e1), Nat.le_of_eq e2.len⟩) (fun i hi H e => ?_) fun i hi x' H H' e y => ?_)⟩
  · have lt : i < us.length := by rw [e2.len]; exact hi
    exact ⟨us, us[i], sq_of (e _ _ e1), List.getElem?_eq_getElem lt⟩
  · obtain ⟨q1, q2⟩ := y
    obtain ⟨x, h1, h2⟩ := e2.got (q2 us (sq_of (e _ _ e1)))
    exact ⟨q1, x, hp xs ax x (List.mem_of_getElem? h1), h2⟩
/-- name what a slot holds -/
theorem Slo.name {P : α → Prop} {k : Nat} (en : Slo B σ Γ) (h : Γ[k]? = some (some (isA P))) : ∃ x, P x ∧ Slo B σ (Γ.set k (some (Py.is x))) := by
  obtain ⟨v, h1, _, x, h2, h3⟩ := en.all k _ h
  refine ⟨x, h2, ?_⟩
  have e := en.put (i := k) h3
  have lt : k < σ.length := (List.getElem?_eq_some_iff.mp h1).1
  have : σ.set k (some v) = σ := by
    apply List.ext_getElem?
    intro m
    by_cases hm : k = m
    · subst hm
      rw [List.getElem?_set_self lt, h1]
    · rw [List.getElem?_set_ne hm]
  rw [this] at e
  exact e
theorem sel_all {T : Nat → Bool → Prop} {A : Nat → α → Prop} {P : α → Prop} (hA : ∀ i y, A i y → P y) : ∀ {m : Nat} {ys : List α}, Sel T A m ys → ∀ y ∈ ys, P y
  | _, _, .nil => by simp
  | _, _, .no h _ => sel_all hA h
  | _, _, .yes h _ a => fun y hy => by
    rcases List.mem_append.mp hy with h' | h'
    · exact sel_all hA h y h'
    · rw [List.mem_singleton.mp h']
      exact hA _ _ a
theorem sel_len {T : Nat → Bool → Prop} {A : Nat → α → Prop} (hT : ∀ i b, T i b → b = true) : ∀ {m : Nat} {ys : List α}, Sel T A m ys → ys.length = m
  | _, _, .nil => rfl
  | _, _, .no h t => Bool.noConfusion (hT _ _ t)
  | _, _, .yes h _ _ => by rw [List.length_append, sel_len hT h] <;> rfl
theorem ty_tup2N {A : α → Prop} {A' : β → Prop} (h1 : Ty G c1 ta Γ A) (h2 : Ty G c2 tb Γ A') : Ty G (c1 + c2) (tTup (tCons ta (tCons tb tNil))) Γ (fun x : α × β => A x.1 ∧ A' x.2) := fun z B σ H en s hz Q q => by
  refine h1 z B σ H en s (by omega) _ fun x' v z1 B1 H1 ex n1 hv => ?_
  refine h2 z1 B1 σ H1 (en.up n1.up) n1.at_ (by have := n1.hi; omega) _ fun y' w z2 B2 H2 ey n2 hw => ?_
  refine ⟨sz_of (by simp), fun p hp => ?_⟩
  obtain ⟨n3, is3⟩ := new_tup n2.at_ hp (Py.st _ _ _ _ n2.up hv) hw
  exact q _ _ _ _ _ ⟨ex, ey⟩ (((n1.trans s n2).trans s n3).le (by omega)) is3
/-- a tuple of values of any kind -/
theorem ty_tupD {ds : List Dat} (h : TyL G c tr Γ (· = ds)) (small : ds.length ≤ 100000) : Ty G c (tTup tr) Γ (· = Dat.tup ds) := fun z B σ H en s hz Q q =>
  h z B σ H en s hz _ fun xs vs z1 B1 H1 ax ea n1 => ⟨sz_of (by rw [ea.len, ax]; exact small), fun p hp => by
    have n2 := Nx.alloc (o := .tup vs) n1.at_ hp
    subst ax
    exact q _ _ _ _ _ rfl ((n1.trans s n2).le (by omega)) (.tup upd_same (ea.ex n2.up).dats)⟩
theorem ty_dnew : Ty G 0 tDNewK Γ (· = Dat.dic) := fun z B σ H en s hz Q q => fun p hp => by
  have n2 := Nx.alloc (o := .dK []) s hp
  exact q _ _ _ _ _ rfl n2 (.dic upd_same)
/-- tuple(xs) of a list -/
def rTupleOf (K : PySem.W.Frag) : List V → Hp → VK → Prop := fun xs H Q => ∃ p ys, xs = [.ref p] ∧ ((SqL K H p ys ∧ ∀ l, H l = none → Q (.ref l) (upd H l (.tup ys))) ∨ (SqT K H p ys ∧ Q (.ref p) H))
theorem ty_tupleOf {ds : List Dat} (h : Ty G c ta Γ (· = ds)) : Ty G (c + 0) (tCB (rTupleOf K) (tCons ta tNil)) Γ (· = Dat.tup ds) :=
  ty_cb (ta_cons h ta_nil) fun vs B al z B' H e s Q q => by
    obtain ⟨v, rfl, p, us, rfl, h1, h2⟩ := al.one
    refine ⟨p, us, rfl, Or.inl ⟨sq_of (s.ex _ _ (e _ _ h1)), fun r hr => ?_⟩⟩
    have n2 := Nx.alloc (o := .tup us) s hr
    exact q _ _ _ _ _ rfl n2 (.tup upd_same ((h2.ex e).ex n2.up).dats)
/-- pairs of ints -/
def pairD (p : Int × Int) : Dat := .tup [.int p.1, .int p.2]
theorem pairs_dats {l : List (Int × Int)} {v : V} {B : Hp} (h : Py.is l v B) : Py.is (l.map pairD) v B := by
  obtain ⟨p, vs, rfl, h1, h2⟩ := h
  refine ⟨p, vs, rfl, h1, ?_⟩
  clear h1
  induction h2 with
  | nil => exact .nil
  | cons h _ ih =>
    obtain ⟨q, a, b, rfl, k1, k2, k3⟩ := h
    exact .cons (.tup k1 (.cons (dat_int k2) (.cons (dat_int k3) .nil))) ih
theorem Ty.datPairs {l : List (Int × Int)} (h : Ty G c te Γ (· = l)) : Ty G c te Γ (· = l.map pairD) := h.cast fun _ _ => pairs_dats
/-- dict(xs) of a list of pairs of ints -/
def rDictP (K : PySem.W.Frag) : List V → Hp → VK → Prop := fun xs H Q => ∃ (a : Addr) (ps : List Addr) (kvs : List (Key × V)), xs = [.ref a] ∧ SqL K H a (ps.map V.ref) ∧ Paired (fun p kv => SqT K H p [kV kv.1, kv.2]) ps kvs ∧
    ∀ p, H p = none → Q (.ref p) (upd H p (.dK (mergeK [] kvs)))
theorem ty_dictP {l : List (Int × Int)} (h : Ty G c ta Γ (· = l)) : Ty G (c + 0) (tCB (rDictP K) (tCons ta tNil)) Γ (· = Dat.dic) :=
  ty_cb (ta_cons h ta_nil) fun vs B al z B' H e s Q q => by
    obtain ⟨v, rfl, p, us, rfl, h1, h2⟩ := al.one
    have key : ∀ {l : List (Int × Int)} {us : List V}, Each B l us → ∃ (ps : List Addr) (kvs : List (Key × V)), us = ps.map V.ref ∧ Paired (fun p kv => SqT K H p [kV kv.1, kv.2]) ps kvs := by
      intro l us h
      induction h with
      | nil => exact ⟨[], [], rfl, .nil⟩
      | @cons pr _ _ _ h _ ih =>
        obtain ⟨ps, kvs, e1, e2⟩ := ih
        obtain ⟨q, a, b, rfl, k1, k2, k3⟩ := h
        refine ⟨q :: ps, (Sum.inl pr.1, b) :: kvs, by rw [e1] <;> rfl, .cons ?_ e2⟩
        have k2' : a = .int pr.1 := k2
        rw [k2'] at k1
        exact st_of (s.ex _ _ (e _ _ k1))
    obtain ⟨ps, kvs, e1, e2⟩ := key h2
    subst e1
    refine ⟨p, ps, kvs, rfl, sq_of (s.ex _ _ (e _ _ h1)), e2, fun r hr => ?_⟩
    have n2 := Nx.alloc (o := .dK (mergeK [] kvs)) s hr
    exact q _ _ _ _ _ rfl n2 (.dic upd_same)
theorem cutL_len (xs : List α) (lo hi : Option Int) : (cutL xs lo hi).length ≤ xs.length := by
  unfold cutL
  rw [List.length_take, List.length_drop]
  omega
theorem word_lt (w : Int) (d : Dat) : (d.whole && (decide (0 ≤ d.toI) && decide (d.toI < 2 ^ w.toNat))) = d.word w := by
  unfold Dat.word top
  rw [Dat.within_eq, decide_eq_decide.mpr (show d.toI < 2 ^ w.toNat ↔ d.toI ≤ 2 ^ w.toNat - 1 by omega)]
end
/-! xs[::e], e evaluates to -1 -/
def tRevS (K : PySem.W.Frag) (te ts : TE) : TE := fun σ H Q => te σ H fun x H1 => ts σ H1 fun y H2 => ∃ a xs, x = .ref a ∧ y = .int (-1) ∧ SqL K H2 a xs ∧ ∀ p, H2 p = none → Q (.ref p) (upd H2 p (.lst xs.reverse))
theorem ty_revS {K : PySem.W.Frag} {G : Option Addr} {c1 c2 : Nat} {te ts : TE} {Γ : Ctx} {α : Type} [Py α] {xs : List α} (h : Ty G c1 te Γ (· = xs)) (h2 : Ty G c2 ts Γ (· = (-1 : Int))) : Ty G (c1 + c2) (tRevS K te ts) Γ (· = xs.reverse) := fun z B σ H en s hz Q q => by
  refine h z B σ H en s (by omega) _ fun x v z1 B1 H1 ex n1 hv => ?_
  refine h2 z1 B1 σ H1 (en.up n1.up) n1.at_ (by have := n1.hi; omega) _ fun y w z2 B2 H2 ey n2 hw => ?_
  subst ex ey
  obtain ⟨a, us, rfl, e1, e2⟩ := hv
  refine ⟨a, us, rfl, hw, sq_of (n2.at_.ex _ _ (n2.up _ _ e1)), fun p hp => ?_⟩
  obtain ⟨n4, is4⟩ := new_list n2.at_ hp (e2.ex n2.up).rev
  exact q _ _ _ _ _ rfl (((n1.trans s n2).trans s n4).le (by omega)) is4
section
variable {X : Cx}
theorem pe_revS {e : Expr} {te : TE} {k k' : Nat} {p1 p2 p3 pos q1 : Pos} (he : PE X e te) {ts : TE} (hs : PE X (.BinOp (.Constant (.int 0) k p1) .Sub (.Constant (.int 1) k' q1) p2) ts) :
    PE X (.Subscript e (.Slice none none (some (.BinOp (.Constant (.int 0) k p1) .Sub (.Constant (.int 1) k' q1) p2)) p3) pos) (tRevS X.K te ts) := by
  refine ⟨fun pins s σ H Q I h => ?_⟩
  refine Subscript_ (thn (he.run pins s σ H _ I h) fun v sa hv => ?_)
  obtain ⟨x, Ha, Ia, rx, want⟩ := hv
  have none1 := po_none (X := X)
  refine wpAny_Slice (thn (none1.run pins sa σ Ha (fun o Hb => o = none ∧ Hb = Ha) Ia ⟨rfl, rfl⟩) fun vl sb hb => ?_)
  obtain ⟨l, Hb, Ib, pl, el, eb⟩ := hb
  subst el eb
  refine thn (none1.run pins sb σ Hb (fun o Hc => o = none ∧ Hc = Hb) Ib ⟨rfl, rfl⟩) fun vu sc hc => ?_
  obtain ⟨u, Hc, Ic, pu, eu, ec⟩ := hc
  subst eu ec
  refine thn ((po_some hs).run pins sc σ Hc (fun o Hd => o = some (-1) ∧ ∃ a xs, x = .ref a ∧ SqL X.K Hd a xs ∧ ∀ p, Hd p = none → Q (.ref p) (upd Hd p (.lst xs.reverse))) Ic ?_) fun vs sd hd => ?_
  · have want' : ts σ Hc fun y H2 => ∃ a xs, x = .ref a ∧ y = .int (-1) ∧ SqL X.K H2 a xs ∧ ∀ p, H2 p = none → Q (.ref p) (upd H2 p (.lst xs.reverse)) := want
    have e : (fun (y : V) (H2 : Hp) => ∃ a xs, x = .ref a ∧ y = .int (-1) ∧ SqL X.K H2 a xs ∧ ∀ p, H2 p = none → Q (.ref p) (upd H2 p (.lst xs.reverse))) =
        fun (y : V) (H2 : Hp) => ∃ i, y = .int i ∧ (some i = some (-1) ∧ ∃ a xs, x = .ref a ∧ SqL X.K H2 a xs ∧ ∀ p, H2 p = none → Q (.ref p) (upd H2 p (.lst xs.reverse))) := by
      funext y H2
      refine propext ⟨fun ⟨a, xs, h1, h2, h3, h4⟩ => ⟨-1, h2, rfl, a, xs, h1, h3, h4⟩, fun ⟨i, h1, h2, a, xs, h3, h4, h5⟩ => ?_⟩
      injection h2 with h2
      subst h2
      exact ⟨a, xs, h3, h1, h4, h5⟩
    show ts σ Hc fun (y : V) (H2 : Hp) => ∃ i, y = .int i ∧ (some i = some (-1) ∧ ∃ a xs, x = .ref a ∧ SqL X.K H2 a xs ∧ ∀ p, H2 p = none → Q (.ref p) (upd H2 p (.lst xs.reverse)))
    rw [← e]
    exact want'
  obtain ⟨o, Hd, Id, ps, eo, a, xs, ex, hx, go⟩ := hd
  subst eo ex
  cases rx
  generalize hsl : sd.heap.push { cls := .type "slice", data := .fields #[vl, vu, vs] } = hp'
  have Ie : Inv X pins σ Hd { sd with heap := hp' } := by
    subst hsl
    exact Id.kept (t' := sd.toks) fun b ob z => Heap.get?_push_of_some _ z
  obtain ⟨its, r, ht, hz⟩ := Ie.list hx
  have hlen := r.length
  subst hsl
  refine tail_any (ops := [.ref a, .ref sd.heap.objs.size]) ht.isList.typeIs (PySem.slot_list_getitem.lookup) ?_ (by with_unfolding_all rfl)
  refine wpAny_getItem_list_slice ht.isList (Heap.IsSliceOf.new _ vl vu vs) pl pu ps (by decide) ?_ (by simp only [List.size_toArray]; omega)
  rw [PySem.W.krv_pick]
  refine ⟨.ref _, _, Ie.laid (t' := sd.toks) (o := .lst xs.reverse) (fun b ob z => Heap.get?_push_of_some _ z) (Nat.le_refl _) ?_, rfl, go _ (Ie.hok.fresh (Nat.le_refl _))⟩
  exact ⟨by simp only [List.length_reverse]; exact hz, _, 0, r.reverse, Heap.get?_push_size _ rfl⟩
end
end AP

set_option maxHeartbeats 4000000
/-! repr of values of any kind; the law's def. -/
namespace AP
open PySem PySem.Spec PyProof.Rows L2 Evl
mutual
def Dat.py : Dat → PyData
  | .non => .none
  | .bl b => .bool b
  | .int n => .int n
  | .str s => .str s
  | .lst ds => .list (pyAll ds)
  | .tup ds => .tuple (pyAll ds)
  | .dic => .dict []
def pyAll : List Dat → List PyData
  | [] => []
  | d :: ds => d.py :: pyAll ds
end
/-- how deep, how heavy a value is whose repr is asked -/
structure Rp (k W : Nat) (d : Dat) : Prop where
  show_ : d.py.showable = true
  nodict : d.py.hasDict = false
  short : d.py.leavesShort 40 = true
  lay : d.py.canLay0 = true
  depth : d.py.depth ≤ k
  wt : d.py.weight ≤ W
theorem Rp.mono {k k' W W' : Nat} {d : Dat} (h : Rp k W d) (a : k ≤ k') (b : W ≤ W') : Rp k' W' d := ⟨h.show_, h.nodict, h.short, h.lay, Nat.le_trans h.depth a, Nat.le_trans h.wt b⟩
theorem rp_int {n : Int} (h : n.natAbs < 2 ^ 100) : Rp 0 100 (.int n) := by
  have l2 : n.natAbs.log2 < 100 := by
    by_cases h0 : n.natAbs = 0
    · rw [h0]
      decide
    · exact (Nat.log2_lt h0).mpr h
  refine ⟨?_, rfl, ?_, rfl, Nat.le_refl _, ?_⟩
  · show decide (n.natAbs.log2 < 1920) = true
    exact decide_eq_true (by omega)
  · show decide ((PyData.shown (.int n)).length ≤ 40) = true
    refine decide_eq_true ?_
    have e := int_text_length_le10 (k := 31) (by decide) (Nat.lt_of_lt_of_le h (by decide))
    show (Str.ofString (toString n)).length ≤ 40
    rw [PySem.ofString_length]
    omega
  · show (if n == 0 then 0 else n.natAbs.log2 + 1) ≤ 100
    split <;> omega
theorem rp_all {k W : Nat} : ∀ {ds : List Dat}, (∀ d ∈ ds, Rp k W d) → PyData.showableAll (pyAll ds) = true ∧ PyData.hasDictAll (pyAll ds) = false ∧ PyData.leavesShortAll 40 (pyAll ds) = true ∧ PyData.canLayAll0 (pyAll ds) = true ∧ PyData.depthAll (pyAll ds) ≤ k ∧ PyData.weightAll (pyAll ds) ≤ (W + 1) * ds.length
  | [], _ => ⟨rfl, rfl, rfl, rfl, Nat.zero_le _, Nat.zero_le _⟩
  | d :: ds, h => by
    obtain ⟨a, b, c, e, f, g⟩ := rp_all (ds := ds) fun x hx => h x (List.mem_cons_of_mem _ hx)
    have r := h d List.mem_cons_self
    refine ⟨?_, ?_, ?_, ?_, ?_, ?_⟩
    · show (d.py.showable && PyData.showableAll (pyAll ds)) = true
      rw [r.show_, a] <;> rfl
    · show (d.py.hasDict || PyData.hasDictAll (pyAll ds)) = false
      rw [r.nodict, b] <;> rfl
    · show (d.py.leavesShort 40 && PyData.leavesShortAll 40 (pyAll ds)) = true
      rw [r.short, c] <;> rfl
    · show (d.py.canLay0 && PyData.canLayAll0 (pyAll ds)) = true
      rw [r.lay, e] <;> rfl
    · show max d.py.depth (PyData.depthAll (pyAll ds)) ≤ k
      exact Nat.max_le.mpr ⟨r.depth, f⟩
    · show d.py.weight + 1 + PyData.weightAll (pyAll ds) ≤ (W + 1) * (ds.length + 1)
      have := r.wt
      rw [Nat.mul_add, Nat.mul_one]
      omega
theorem rp_lst {k W : Nat} {ds : List Dat} (h : ∀ d ∈ ds, Rp k W d) : Rp (k + 1) ((W + 1) * ds.length) (.lst ds) := by
  obtain ⟨a, b, c, e, f, g⟩ := rp_all h
  exact ⟨a, b, c, e, Nat.succ_le_succ f, g⟩
theorem rp_tup {k W : Nat} {ds : List Dat} (h : ∀ d ∈ ds, Rp k W d) : Rp (k + 1) ((W + 1) * ds.length) (.tup ds) := by
  obtain ⟨a, b, c, e, f, g⟩ := rp_all h
  exact ⟨a, b, c, e, Nat.succ_le_succ f, g⟩
mutual
theorem DatV.dp {K : PySem.W.Frag} {B H : Hp} (e : Ex B H) : ∀ {d : Dat} {v : V}, DatV B d v → d.py.hasDict = false → Dp K H v d.py
  | _, _, .non, _ => .non
  | _, _, .bl b, _ => .bl b
  | _, _, .int n, _ => .int n
  | _, _, .str s, _ => .str s
  | _, _, .lst h r, k => .lst (sq_of (e _ _ h)) (DatVs.dp e r k)
  | _, _, .tup h r, k => .tup (st_of (e _ _ h)) (DatVs.dp e r k)
  | _, _, .dic _, k => by cases k
theorem DatVs.dp {K : PySem.W.Frag} {B H : Hp} (e : Ex B H) : ∀ {d : List Dat} {v : List V}, DatVs B d v → PyData.hasDictAll (pyAll d) = false → DpAll K H v (pyAll d)
  | _, _, .nil, _ => .nil
  | d :: ds, _, .cons h r, k => by
    have k' : (d.py.hasDict || PyData.hasDictAll (pyAll ds)) = false := k
    rw [Bool.or_eq_false_iff] at k'
    exact .cons (DatV.dp e h k'.1) (DatVs.dp e r k'.2)
end
section
variable {K : PySem.W.Frag} {G : Option Addr} {c c1 c2 : Nat} {ta tb : TE} {Γ : AP.Ctx}
theorem ty_repr {d : Dat} {k W : Nat} (h : Ty G c ta Γ (· = d)) (r : Rp k W d) (hk : k ≤ 60) (hW : W ≤ 300000) : Ty G (c + 0) (tCB (rRepr K) (tCons ta tNil)) Γ (· = d.py.shown) :=
  ty_cb (ta_cons h ta_nil) fun vs B al z B' H e s Q q => by
    obtain ⟨v, rfl, hv⟩ := al.one
    refine ⟨v, d.py, rfl, DatV.dp (e.trans s.ex) hv r.nodict, r.show_, r.nodict, Nat.le_trans r.depth hk, ?_, q _ _ z B' H rfl (.refl s) rfl⟩
    have h1 := PyData.shown_le 40 (by decide) d.py r.short
    have h2 : (40 + 2) * d.py.weight ≤ 42 * 300000 := Nat.mul_le_mul (Nat.le_refl _) (Nat.le_trans r.wt hW)
    rw [sizeLine_eq]
    omega
/-- == of data -/
theorem ty_eqD {d e : Dat} {k W k' W' : Nat} (h : Ty G c1 ta Γ (· = d)) (h2 : Ty G c2 tb Γ (· = e)) (r : Rp k W d) (r' : Rp k' W' e) (hk : k ≤ 60) (hk' : k' ≤ 60) : Ty G (c1 + c2) (tOp (rEqD K) ta tb) Γ (· = PyData.eqv d.py e.py) :=
  ty_op h h2 fun x y v w B ex ey hv hw z B' H ee s Q q => by
    subst ex ey
    have sh : ∀ {k W : Nat} {d : Dat}, Rp k W d → k ≤ 60 → SeqAt.shaped d.py = true := fun {k W d} r hk => by
      have := r.depth
      unfold SeqAt.shaped
      rw [r.lay, decide_eq_true (by omega)] <;> rfl
    exact ⟨_, _, DatV.dp (ee.trans s.ex) hv r.nodict, DatV.dp (ee.trans s.ex) hw r'.nodict, sh r hk, sh r' hk', q _ _ z B' H rfl (.refl s) rfl⟩
theorem ty_neD {d e : Dat} {k W k' W' : Nat} (h : Ty G c1 ta Γ (· = d)) (h2 : Ty G c2 tb Γ (· = e)) (r : Rp k W d) (r' : Rp k' W' e) (hk : k ≤ 60) (hk' : k' ≤ 60) : Ty G (c1 + c2) (tOp (rNeD K) ta tb) Γ (· = !PyData.eqv d.py e.py) :=
  ty_op h h2 fun x y v w B ex ey hv hw z B' H ee s Q q => by
    subst ex ey
    have sh : ∀ {k W : Nat} {d : Dat}, Rp k W d → k ≤ 60 → SeqAt.shaped d.py = true := fun {k W d} r hk => by
      have := r.depth
      unfold SeqAt.shaped
      rw [r.lay, decide_eq_true (by omega)] <;> rfl
    exact ⟨_, _, DatV.dp (ee.trans s.ex) hv r.nodict, DatV.dp (ee.trans s.ex) hw r'.nodict, sh r hk, sh r' hk', q _ _ z B' H rfl (.refl s) rfl⟩
end
/-! a def that is called where no repr is under way -/
structure FoG (P : Program) (w : World) (K : PySem.W.Frag) (mg : Str → Option Value) (base : Heap) (x : Str) (k : Nat) (ps : List Str) (sp : Sp) : Prop where
  ex : ∃ (f : Addr) (fd : FuncData), mg x = some (.ref f) ∧ PySem.W.keepIn K (.ref f) = true ∧ Binds K fd ps [] ∧ FnG P w K mg base CX0 k f fd ps sp
theorem FoG.mk' {P : Program} {w : World} {K : PySem.W.Frag} {mg : Str → Option Value} {base : Heap} {x qual : Str} {st : Stmt} {f : Addr} {fd : FuncData} {ps : List Str} {k : Nat} {sp : Sp} (F : Df K x qual st [] f fd) (m : mg x = some (.ref f)) (G : FnG P w K mg base CX0 k f fd ps sp)
    (b : ∀ (kV doc pm : Value) (an : Option Addr) (cdv ct : Value) (us : List Value), us.length = ps.length → bindArgs (PySem.W.fnOf x qual (defArgs st) (defBody st) (defScope st) .none kV doc pm an cdv ct) ⟨us, []⟩ = pure (ps.zip us)) :
    FoG P w K mg base x k ps sp := ⟨f, fd, m, F.kp, FunD.bindsN F b, G⟩
section
variable {X : Cx} {k : Nat} {ps : List Str} {sp : Sp} {x : Str} {p pos : Pos} {e : Expr} {es : List Expr} {t : TA}
theorem pe_fog (F : FoG X.prog X.w X.K X.mg X.base x k ps sp) (ng : X.A.guards = some []) (hr : Room k X.A) (hg : Gl X x) (ha : PA X (e :: es) t) (hdb : (x == ("__debug__" : Str)) = false := by decide)
    (he : starEach (e :: es) X.env = (false, eval e X.env) :: starEach es X.env := by rfl)
    (hpl : (backTo pos (starEach es X.env)).any (·.1) = false := by rfl) :
    PE X (.Call (.Name x p) (e :: es) [] pos) (tCall sp [] (fun _ _ _ => False) t) := by
  obtain ⟨f, fd, m, kp, b, G⟩ := F.ex
  exact pe_callG G ng hr hg m kp b .nil pass0 ha hdb he hpl
end
/-- the law's script in a slot -/
def ScP (K : PySem.W.Frag) (a : Addr) (ns : List Int) : VP := fun v B => v = .ref a ∧ SqL K B a (ns.map V.int)
theorem ScP.stays {K : PySem.W.Frag} {a : Addr} {ns : List Int} : Stays (ScP K a ns) := fun _ _ _ e h => ⟨h.1, ex_l e h.2⟩
/-- right(generator(script, i)) -/
theorem ty_rightgen {K : PySem.W.Frag} {Γ : AP.Ctx} {C : Con Addr Bool} {E E' : XK} {a : Addr} {ns : List Int} {k l : Nat} {i : Nat} (hC : ∀ g, C.args g = [Py.is (GenR.mk g)]) (hp : ∀ g, C.pre g (some g)) (hc : ∀ g, C.c g ≤ 2 ^ 49) (hq : ∀ g b, C.post g b → b = true)
    (h1 : Γ[k]? = some (some (ScP K a ns))) (h2 : Γ[l]? = some (some (Py.is ((i : Nat) : Int)))) (hi : i ≤ 1000) :
    Ty none 0 (tCall C.sp [] E (tCons (tCall (spGenerator K) [] E' (tCons (tVar k) (tCons (tVar l) tNil))) tNil)) Γ (· = true) := fun z B σ H en s hz Q q => by
  obtain ⟨v, e1, _, ev, hs⟩ := en.all k _ h1
  subst ev
  obtain ⟨u, e2, _, hu⟩ := en.all l _ h2
  cases (show u = .int (i : Int) from hu)
  refine ⟨_, e1, _, e2, ?_⟩
  show spGenerator K ([.ref a, .int (i : Int)] ++ []) H (fun x H1 => C.sp ([x] ++ []) H1 Q E) E'
  refine ⟨a, ns, i, rfl, ex_l s.ex hs, hi, fun p H1 np ex1 gen => ?_⟩
  obtain ⟨x, y, z1, g1, g2, ⟨g3, g4⟩, g5, g6⟩ := gen
  show C.sp ([.ref p] ++ []) H1 Q E
  have nB : B p = none := fresh_back s.ex np
  have at1 : At (some p) z1 B H1 := ⟨s.ex.trans ex1, fun g eg => by cases eg; exact ⟨nB, x, y, g1, g2, g3, g4, g5⟩⟩
  refine ⟨p, some p, z1, B, by rw [hC]; exact .cons (Py.stays _) rfl .nil, hp p, at1, by have := hc p; omega, fun b w z' B' H' hb nx is => ?_⟩
  refine q b w z B' H' (hq p b hb) ⟨⟨nx.at_.ex, fun g eg => by cases eg⟩, nx.up, fun b o hb => ?_, Int.le_refl _, by omega, fun b o _ hb => ?_⟩ is
  · rcases nx.new b o hb with h | h
    · exact .inl h
    · exact .inr (fresh_back ex1 h)
  · exact nx.keep b o (fun z => by cases z; rw [np] at hb; cases hb) (ex1 b o hb)
end AP

set_option maxHeartbeats 4000000
/-! list(range(..)); the law's promise. -/
namespace AP
open PySem PySem.Spec PyProof.Rows L2 Evl
def upto (n : Int) : List Int := (List.range n.toNat).map fun i : Nat => (0 : Int) + (i : Int)
theorem ty_listRg {G : Option Addr} {c : Nat} {te : TE} {Γ : AP.Ctx} {n : Int} (h : Ty G c te Γ (· = n)) (h0 : 0 ≤ n) (h1 : n ≤ 1000000) : Ty G c (tLstRg (tRg1 te)) Γ (· = upto n) := fun z B σ H en s hz Q q =>
  h z B σ H en s hz _ fun x v z1 B1 H1 ex n1 hv => ⟨x, hv, RgOk.of_le (by decide) (by omega) (by decide) (by omega), fun p hp => by
    subst ex
    have e : rgV 0 x = (upto x).map V.int := by
      unfold rgV upto
      rw [List.map_map, Int.sub_zero]
      rfl
    rw [e]
    obtain ⟨n2, is2⟩ := new_list n1.at_ hp (Each.of_ints (upto x))
    exact q _ _ _ _ _ rfl ((n1.trans s n2).le (by omega)) is2⟩
/-- the law's def: True, whatever the script -/
def spLaw (K : PySem.W.Frag) : Sp := fun vs H Q _ => ∃ (a : Addr) (ns : List Int), vs = [.ref a] ∧ SqL K H a (ns.map V.int) ∧ ∀ H', Q (.bl true) H'
theorem at_none {H : Hp} {z : Int} : At none z H H := ⟨Ex.refl H, fun _ e => by cases e⟩
theorem slo_law {K : PySem.W.Frag} {H : Hp} {a : Addr} {ns : List Int} {N : List Str} (h : SqL K H a (ns.map V.int)) : Slo H (L2.start N [.ref a]) (ctx0 N.length [ScP K a ns]) := Slo.start (.cons ScP.stays ⟨rfl, h⟩ .nil)
end AP

set_option maxHeartbeats 4000000
namespace K01
open PySem PySem.Spec PyProof.Rows L2 AP Evl
def topS (i : Nat) : Stmt := PySem.Challenge.pw_anyplaces_k01_widths_words_and_places.main.body.getD i (.Pass ⟨0, 0, 0, 0⟩)
/-- the built-in names -/
structure TN (mg : Str → Option Value) : Prop where
  b_int : mg "int" = none
  b_bool : mg "bool" = none
  b_list : mg "list" = none
  b_tuple : mg "tuple" = none
  b_dict : mg "dict" = none
  b_isinstance : mg "isinstance" = none
  b_all : mg "all" = none
  b_any : mg "any" = none
  b_len : mg "len" = none
  b_range : mg "range" = none
  b_sum : mg "sum" = none
  b_max : mg "max" = none
  b_min : mg "min" = none
  b_sorted : mg "sorted" = none
  b_repr : mg "repr" = none
  b_enumerate : mg "enumerate" = none
  b_zip : mg "zip" = none
  b_reversed : mg "reversed" = none
  b_abs : mg "abs" = none

def cIsOneOf : AP.Con (List Int × Dat) Bool := ⟨fun i => [Py.is i.1, Py.is i.2], nop, fun _ => 0, fun i b => b = (i.2.whole && decide (i.2.toI ∈ i.1))⟩
section
variable {G : Option Addr} {c0 c1 : Nat} {t0 t1 : TE} {Γ : AP.Ctx}
theorem y_isOneOf {ps : List Int} {d : Dat} {E : XK} (h0 : AP.Ty G c0 t0 Γ (· = ps)) (h1 : AP.Ty G c1 t1 Γ (· = d)) : AP.Ty G (c0 + (c1 + 0) + 0) (tCall cIsOneOf.sp [] E (tCons t0 (tCons t1 tNil))) Γ (· = (d.whole && decide (d.toI ∈ ps))) := ty_call (C := cIsOneOf) (ps, d) (ta_cons h0 (ta_cons h1 ta_nil)) trivial
end
section
variable {P : Program} {w : World} {K : PySem.W.Frag} {mg : Str → Option Value} {base : Heap}
abbrev sis_whole : Stmt := topS 6
theorem scis_whole : FnScope ["value"] ["value"] (defScope sis_whole) := ⟨rfl, rfl, rfl, by decide +kernel, rfl, by decide +kernel, by decide +kernel⟩
theorem ok_is_whole {f : Addr} {fd : FuncData} (F : Df K "is_whole" "is_whole" sis_whole [] f fd) (T : TN mg)   :
    FnOk P w K mg base CX0 1 f fd ["value"] cWhole.sp := by
  refine con_go F scis_whole cWhole (fun _ => rfl) fun cdv A outer s H E i G z0 B0 hr hp at0 hz => ⟨_, (pss_one (ps_ret (pe_and (pe_callB (r := rIsi K) call_isi (by rfl) T.b_isinstance (by decide +kernel) (pa_cons (pv 0) (pa_cons (pe_bltn (v := .ty "int") (by rfl) T.b_int (by decide +kernel) rfl) pa_nil))) (pe_one (pe_not (pe_callB (r := rIsi K) call_isi (by rfl) T.b_isinstance (by decide +kernel) (pa_cons (pv 0) (pa_cons (pe_bltn (v := .ty "bool") (by rfl) T.b_bool (by decide +kernel) rfl) pa_nil)))))))), fun σ Q en q => ?_⟩
  have n0 := Nx.refl at0
  exact q_ret at0 n0 en ((ty_andV (ty_isi .int (ty_var rfl)) fun _ => ty_notV (ty_isi .bool (ty_var rfl))).to (Dat.whole_eq i)) hz q
abbrev sis_between : Stmt := topS 7
theorem scis_between : FnScope ["value", "low", "high"] ["value", "low", "high"] (defScope sis_between) := ⟨rfl, rfl, rfl, by decide +kernel, rfl, by decide +kernel, by decide +kernel⟩
theorem ok_is_between {f : Addr} {fd : FuncData} (F : Df K "is_between" "is_between" sis_between [] f fd) (T : TN mg)  (Fis_whole : Fo P w K mg base "is_whole" 1 ["value"] cWhole.sp) :
    FnOk P w K mg base CX0 2 f fd ["value", "low", "high"] cBetween.sp := by
  refine con_go F scis_between cBetween (fun _ => rfl) fun cdv A outer s H E i G z0 B0 hr hp at0 hz => ⟨_, (pss_one (ps_ret (pe_and (pe_fo Fis_whole (hr.mono (by decide)) (by rfl) (pa_cons (pv 0) pa_nil)) (pe_one (pe_chain op_le op_le (pv 1) (pv 0) (pv 2)))))), fun σ Q en q => ?_⟩
  have n0 := Nx.refl at0
  obtain ⟨d, lo, hi⟩ := i
  exact q_ret at0 n0 en ((ty_andV (y_whole (ty_var rfl)) fun hw => ty_chain (ty_var rfl) ((ty_var (x := d) rfl).intOf hw) (ty_var rfl)).to (Dat.within_eq lo hi d).symm) hz q
abbrev sfits_width : Stmt := topS 8
theorem scfits_width : FnScope ["value"] ["value"] (defScope sfits_width) := ⟨rfl, rfl, rfl, by decide +kernel, rfl, by decide +kernel, by decide +kernel⟩
theorem ok_fits_width {f : Addr} {fd : FuncData} (F : Df K "fits_width" "fits_width" sfits_width [] f fd) (T : TN mg) (W : ∃ t, mg "WIDEST" = some (.int 64 t)) (Fis_between : Fo P w K mg base "is_between" 2 ["value", "low", "high"] cBetween.sp) :
    FnOk P w K mg base CX0 3 f fd ["value"] cFitsWidth.sp := by
  obtain ⟨tk, mW⟩ := W
  refine con_go F scfits_width cFitsWidth (fun _ => rfl) fun cdv A outer s H E i G z0 B0 hr hp at0 hz => ⟨_, (pss_one (ps_ret (pe_fo Fis_between (hr.mono (by decide)) (by rfl) (pa_cons (pv 0) (pa_cons pe_int (pa_cons (pe_glob (v := .int 64) (by rfl) mW ⟨_, rfl⟩) pa_nil)))))), fun σ Q en q => ?_⟩
  have n0 := Nx.refl at0
  exact q_ret at0 n0 en (y_between (ty_var rfl) ty_i ty_i) hz q
abbrev sfits_word : Stmt := topS 9
theorem scfits_word : FnScope ["width", "value"] ["width", "value"] (defScope sfits_word) := ⟨rfl, rfl, rfl, by decide +kernel, rfl, by decide +kernel, by decide +kernel⟩
theorem ok_fits_word {f : Addr} {fd : FuncData} (F : Df K "fits_word" "fits_word" sfits_word [] f fd) (T : TN mg)  (Fis_between : Fo P w K mg base "is_between" 2 ["value", "low", "high"] cBetween.sp) :
    FnOk P w K mg base CX0 3 f fd ["width", "value"] cFitsWord.sp := by
  refine con_go F scfits_word cFitsWord (fun _ => rfl) fun cdv A outer s H E i G z0 B0 hr hp at0 hz => ⟨_, (pss_one (ps_ret (pe_fo Fis_between (hr.mono (by decide)) (by rfl) (pa_cons (pv 1) (pa_cons pe_int (pa_cons (pe_op op_sub (pe_op op_shl pe_int (pv 0)) pe_int) pa_nil)))))), fun σ Q en q => ?_⟩
  have n0 := Nx.refl at0
  obtain ⟨wd, d⟩ := i
  have hw : 1 ≤ wd ∧ wd ≤ 64 := hp
  exact q_ret at0 n0 en (y_between (ty_var rfl) ty_i (ty_I0 (ty_shl (ty_var rfl) ⟨by omega, by omega⟩) ty_i)) hz q
abbrev sis_one_of : Stmt := topS 10
theorem scis_one_of : FnScope ["places", "value"] ["places", "value"] (defScope sis_one_of) := ⟨rfl, rfl, rfl, by decide +kernel, rfl, by decide +kernel, by decide +kernel⟩
theorem ok_is_one_of {f : Addr} {fd : FuncData} (F : Df K "is_one_of" "is_one_of" sis_one_of [] f fd) (T : TN mg)  (Fis_whole : Fo P w K mg base "is_whole" 1 ["value"] cWhole.sp) :
    FnOk P w K mg base CX0 2 f fd ["places", "value"] cIsOneOf.sp := by
  refine con_go F scis_one_of cIsOneOf (fun _ => rfl) fun cdv A outer s H E i G z0 B0 hr hp at0 hz => ⟨_, (pss_one (ps_ret (pe_and (pe_fo Fis_whole (hr.mono (by decide)) (by rfl) (pa_cons (pv 1) pa_nil)) (pe_one (pe_cmpR (r := rIn K false) op_in_seq (pv 1) (pv 0) (by rfl)))))), fun σ Q en q => ?_⟩
  have n0 := Nx.refl at0
  obtain ⟨ps, d⟩ := i
  exact q_ret at0 n0 en (ty_andV (y_whole (ty_var (x := d) rfl)) fun ha => ty_in ((ty_var (x := d) rfl).intOf ha) (ty_var (x := ps) rfl)) hz q
abbrev sare_words : Stmt := topS 11
theorem scare_words : FnScope ["width", "value", "word"] ["width", "value"] (defScope sare_words) := ⟨rfl, rfl, rfl, by decide +kernel, rfl, by decide +kernel, by decide +kernel⟩
theorem ok_are_words {f : Addr} {fd : FuncData} (F : Df K "are_words" "are_words" sare_words [] f fd) (T : TN mg)  (Ffits_word : Fo P w K mg base "fits_word" 3 ["width", "value"] cFitsWord.sp) :
    FnOk P w K mg base CX0 4 f fd ["width", "value"] cAreWords.sp := by
  refine con_go F scare_words cAreWords (fun _ => rfl) fun cdv A outer s H E i G z0 B0 hr hp at0 hz => ⟨_, (pss_one (ps_ret (pe_and (pe_callB (r := rIsi K) call_isi (by rfl) T.b_isinstance (by decide +kernel) (pa_cons (pv 1) (pa_cons (pe_bltn (v := .ty "list") (by rfl) T.b_list (by decide +kernel) rfl) pa_nil))) (pe_one (pe_callB (r := rAll K) (cr_all rfl) (by rfl) T.b_all (by decide +kernel) (pa_cons (pe_lc (own := [("word", 2)]) rfl scare_words.nd (pi_list (pv 1)) (blkOk_by (own := [("word", 2)]) (N := ["width", "value", "word"]) (sc := defScope sare_words) (by decide +kernel)) (fun _ _ _ _ _ => (pg_name (i := 2) scare_words.nd rfl (Or.inl rfl))) (fun _ _ _ _ _ => pts_nil) (fun _ _ _ _ _ => (pe_fo Ffits_word (hr.mono (by decide)) (by rfl) (pa_cons (pv 0) (pa_cons (pv 2) pa_nil))))) pa_nil)))))), fun σ Q en q => ?_⟩
  have n0 := Nx.refl at0
  obtain ⟨wd, d⟩ := i
  obtain ⟨hw, sm⟩ := hp
  refine q_ret at0 n0 en ((ty_andV (c2 := 0) (b := wordsB wd d) (ty_isi .list (ty_var rfl)) fun hl => ?_).to (by cases d <;> rfl)) hz q
  cases d with
  | lst ds =>
    exact (ty_all (ty_lcM ((ty_var rfl).lstDat) (Nat.le_trans sm (by decide)) (by simp) fun x hx => y_fitsWord (ty_var rfl) (ty_var rfl) hw)).to (by rw [List.all_map]; rfl)
  | _ => cases hl
abbrev sclimbs : Stmt := topS 12
theorem scclimbs : FnScope ["numbers", "k"] ["numbers"] (defScope sclimbs) := ⟨rfl, rfl, rfl, by decide +kernel, rfl, by decide +kernel, by decide +kernel⟩
theorem ok_climbs {f : Addr} {fd : FuncData} (F : Df K "climbs" "climbs" sclimbs [] f fd) (T : TN mg)   :
    FnOk P w K mg base CX0 1 f fd ["numbers"] cClimbs.sp := by
  refine con_go F scclimbs cClimbs (fun _ => rfl) fun cdv A outer s H E i G z0 B0 hr hp at0 hz => ⟨_, (pss_one (ps_ret (pe_callB (r := rAll K) (cr_all rfl) (by rfl) T.b_all (by decide +kernel) (pa_cons (pe_lc (own := [("k", 1)]) rfl scclimbs.nd (pi_range2 (by rfl) T.b_range (pa_cons pe_int (pa_cons (pe_callB (r := rLenS K) call_len_seq (by rfl) T.b_len (by decide +kernel) (pa_cons (pv 0) pa_nil)) pa_nil))) (blkOk_by (own := [("k", 1)]) (N := ["numbers", "k"]) (sc := defScope sclimbs) (by decide +kernel)) (fun _ _ _ _ _ => (pg_name (i := 1) scclimbs.nd rfl (Or.inl rfl))) (fun _ _ _ _ _ => pts_nil) (fun _ _ _ _ _ => (pe_cmpR op_lt (pe_ix (r := rIxL K) ix_list (pv 0) (pe_op op_sub (pv 1) pe_int) (fun _ _ => rfl)) (pe_ix (r := rIxL K) ix_list (pv 0) (pv 1) (fun _ _ => rfl)) (nomark _)))) pa_nil)))), fun σ Q en q => ?_⟩
  have n0 := Nx.refl at0
  have sm : i.length ≤ 30000 := hp
  refine q_ret at0 n0 en ((ty_all (ty_lcR2 (p := fun _ => true) (f := fun x : Int => decide (i.getD (x - 1).toNat 0 < i.getD x.toNat 0)) (ta_cons ty_i (ta_cons (ty_len (ty_var rfl)) ta_nil)) (by decide) ⟨by omega, by omega⟩ (by omega) (by simp) (fun x _ _ => tt_yes) fun x h1 h2 _ => ?_)).to (climbs_eq i)) hz q
  exact ty_B0 (ty_ix (ty_var rfl) (ty_I0 (ty_var rfl) ty_i) (atI_in (by omega) (by omega))) (ty_ix (ty_var rfl) (ty_var rfl) (atI_in (by omega) h2))
abbrev sare_places : Stmt := topS 13
theorem scare_places : FnScope ["width", "value"] ["width", "value"] (defScope sare_places) := ⟨rfl, rfl, rfl, by decide +kernel, rfl, by decide +kernel, by decide +kernel⟩
theorem ok_are_places {f : Addr} {fd : FuncData} (F : Df K "are_places" "are_places" sare_places [] f fd) (T : TN mg)  (Fare_words : Fo P w K mg base "are_words" 4 ["width", "value"] cAreWords.sp) (Fclimbs : Fo P w K mg base "climbs" 1 ["numbers"] cClimbs.sp) :
    FnOk P w K mg base CX0 5 f fd ["width", "value"] cArePlaces.sp := by
  refine con_go F scare_places cArePlaces (fun _ => rfl) fun cdv A outer s H E i G z0 B0 hr hp at0 hz => ⟨_, (pss_one (ps_ret (pe_and (pe_fo Fare_words (hr.mono (by decide)) (by rfl) (pa_cons (pv 0) (pa_cons (pv 1) pa_nil))) (pe_and (pe_cmpR op_gt (pe_callB (r := rLenS K) call_len_seq (by rfl) T.b_len (by decide +kernel) (pa_cons (pv 1) pa_nil)) pe_int (nomark _)) (pe_one (pe_fo Fclimbs (hr.mono (by decide)) (by rfl) (pa_cons (pv 1) pa_nil))))))), fun σ Q en q => ?_⟩
  have n0 := Nx.refl at0
  obtain ⟨wd, d⟩ := i
  obtain ⟨hw, sm⟩ := hp
  refine q_ret at0 n0 en ((ty_andV (c2 := 0) (b := placesB wd d) (y_areWords (ty_var rfl) (ty_var rfl) ⟨hw, sm⟩) fun h => ?_).to (by cases d <;> first | rfl | (show (wordsB wd _ && placesB wd _) = placesB wd _; unfold wordsB placesB; dsimp only; rw [← Bool.and_assoc, Bool.and_self]))) hz q
  cases d with
  | lst ds =>
    have all : ds.all (Dat.word wd) = true := h
    have sm' : ds.length ≤ 30000 := sm
    have tyw : Ty G 0 (tVar 1) (ctx0 2 (cArePlaces.args (wd, .lst ds))) (· = ds.map Dat.toI) := (ty_var (x := Dat.lst ds) rfl).intsOf (words_whole all)
    refine (ty_andV (ty_B0 (ty_len ((ty_var (x := Dat.lst ds) rfl).lstDat)) ty_i) fun _ => y_climbs tyw (by rw [List.length_map]; exact sm')).to ?_
    show (decide ((0 : Int) < (ds.length : Int)) && climbs (ds.map Dat.toI)) = (ds.all (Dat.word wd) && (decide (0 < ds.length) && climbs (ds.map Dat.toI)))
    rw [all, Bool.true_and, decide_eq_decide.mpr (show (0 : Int) < (ds.length : Int) ↔ 0 < ds.length by omega)]
  | _ => cases h
abbrev sare_words_at : Stmt := topS 14
theorem scare_words_at : FnScope ["width", "places", "value"] ["width", "places", "value"] (defScope sare_words_at) := ⟨rfl, rfl, rfl, by decide +kernel, rfl, by decide +kernel, by decide +kernel⟩
theorem ok_are_words_at {f : Addr} {fd : FuncData} (F : Df K "are_words_at" "are_words_at" sare_words_at [] f fd) (T : TN mg)  (Fare_words : Fo P w K mg base "are_words" 4 ["width", "value"] cAreWords.sp) :
    FnOk P w K mg base CX0 5 f fd ["width", "places", "value"] cWordsAt.sp := by
  refine con_go F scare_words_at cWordsAt (fun _ => rfl) fun cdv A outer s H E i G z0 B0 hr hp at0 hz => ⟨_, (pss_one (ps_ret (pe_and (pe_fo Fare_words (hr.mono (by decide)) (by rfl) (pa_cons (pv 0) (pa_cons (pv 2) pa_nil))) (pe_one (pe_cmpR op_eq (pe_callB (r := rLenS K) call_len_seq (by rfl) T.b_len (by decide +kernel) (pa_cons (pv 2) pa_nil)) (pe_callB (r := rLenS K) call_len_seq (by rfl) T.b_len (by decide +kernel) (pa_cons (pv 1) pa_nil)) (nomark _)))))), fun σ Q en q => ?_⟩
  have n0 := Nx.refl at0
  obtain ⟨wd, ps, d⟩ := i
  obtain ⟨hw, sm⟩ := hp
  refine q_ret at0 n0 en ((ty_andV (c2 := 0) (b := wordsAtB wd ps.length d) (y_areWords (ty_var rfl) (ty_var rfl) ⟨hw, sm⟩) fun h => ?_).to (by cases d <;> first | rfl | (show (wordsB wd _ && wordsAtB wd _ _) = wordsAtB wd _ _; unfold wordsB wordsAtB; dsimp only; rw [← Bool.and_assoc, Bool.and_self]))) hz q
  cases d with
  | lst ds =>
    have all : ds.all (Dat.word wd) = true := h
    refine (ty_eqI (ty_len ((ty_var (x := Dat.lst ds) rfl).lstDat)) (ty_len (ty_var (x := ps) rfl))).to ?_
    show decide ((ds.length : Int) = (ps.length : Int)) = (ds.all (Dat.word wd) && decide (ds.length = ps.length))
    rw [all, Bool.true_and, decide_eq_decide.mpr (show (ds.length : Int) = (ps.length : Int) ↔ ds.length = ps.length by omega)]
  | _ => cases h
abbrev sis_known_word : Stmt := topS 15
theorem scis_known_word : FnScope ["width", "places", "value"] ["width", "places", "value"] (defScope sis_known_word) := ⟨rfl, rfl, rfl, by decide +kernel, rfl, by decide +kernel, by decide +kernel⟩
theorem ok_is_known_word {f : Addr} {fd : FuncData} (F : Df K "is_known_word" "is_known_word" sis_known_word [] f fd) (T : TN mg)  (Fis_one_of : Fo P w K mg base "is_one_of" 2 ["places", "value"] cIsOneOf.sp) (Ffits_word : Fo P w K mg base "fits_word" 3 ["width", "value"] cFitsWord.sp) :
    FnOk P w K mg base CX0 4 f fd ["width", "places", "value"] cKnownOne.sp := by
  refine con_go F scis_known_word cKnownOne (fun _ => rfl) fun cdv A outer s H E i G z0 B0 hr hp at0 hz => ⟨_, (pss_cons (ps_if (PW.pt (pw_or (pt_not (pt_val (pe_callB (r := rIsi K) call_isi (by rfl) T.b_isinstance (by decide +kernel) (pa_cons (pv 2) (pa_cons (pe_bltn (v := .ty "tuple") (by rfl) T.b_tuple (by decide +kernel) rfl) pa_nil))))) (pw_or1 (pt_cmpR op_ne (pe_callB (r := rLenS K) call_len_seq (by rfl) T.b_len (by decide +kernel) (pa_cons (pv 2) pa_nil)) pe_int (nomark _))))) (pss_one (ps_ret pe_bl)) pss_nil)
     (pss_one (ps_ret (pe_and (pe_fo Fis_one_of (hr.mono (by decide)) (by rfl) (pa_cons (pv 1) (pa_cons (pe_ix (r := rIxT K) ix_tup (pv 2) pe_int (fun _ _ => rfl)) pa_nil))) (pe_one (pe_fo Ffits_word (hr.mono (by decide)) (by rfl) (pa_cons (pv 0) (pa_cons (pe_ix (r := rIxT K) ix_tup (pv 2) pe_int (fun _ _ => rfl)) pa_nil)))))))), fun σ Q en q => ?_⟩
  have n0 := Nx.refl at0
  obtain ⟨wd, ps, d⟩ := i
  have hw : wOk wd := hp
  by_cases ht : d.isT .tuple = true
  · obtain ⟨ds, rfl⟩ : ∃ ds, d = .tup ds := by cases d <;> first | exact ⟨_, rfl⟩ | cases ht
    refine AP.q_when at0 n0 en (tt_or (tt_notD (tt_B (ty_isi .tuple (ty_var rfl)))) fun _ => tt_test (ty_neI (ty_lenT (ty_var (x := Dat.tup ds) rfl)) ty_i)) hz (fun hb z' B' H' _ n en => ?_) (fun hb z' B' H' _ n en => ?_)
    · refine q_ret at0 n en ty_b hz fun x v z' B' H' e n h => q x v z' B' H' ?_ n h
      rw [e]
      have : ¬ ds.length = 2 := fun l => by
        have hb' : (!true || !decide ((ds.length : Int) = 2)) = true := hb
        rw [l] at hb'
        exact absurd hb' (by decide)
      match ds, this with
      | [], _ => rfl
      | [_], _ => rfl
      | [_, _], t => exact absurd rfl t
      | _ :: _ :: _ :: _, _ => rfl
    · have l2 : ds.length = 2 := by
        have hb' : (!true || !decide ((ds.length : Int) = 2)) = false := hb
        have : decide ((ds.length : Int) = 2) = true := by simpa using hb'
        have := of_decide_eq_true this
        omega
      match ds, l2 with
      | [a, b], _ =>
        exact q_ret at0 n en ((ty_andV (y_isOneOf (ty_var (x := ps) rfl) (ty_ixT (ds := [a, b]) (ty_var rfl) ty_i rfl)) fun _ => y_fitsWord (ty_var rfl) (ty_ixT (ds := [a, b]) (ty_var rfl) ty_i rfl) hw).to (by show _ = (a.whole && (decide (a.toI ∈ ps) && b.word wd)); rw [Bool.and_assoc])) hz q
  · refine AP.q_when at0 n0 en (tt_or (c2 := 0) (b := false) (tt_notD (tt_B (ty_isi .tuple (ty_var (x := d) rfl)))) fun z => absurd (by simpa using z) ht) hz (fun hb z' B' H' _ n en => ?_) (fun hb => absurd hb (by simp at ht; rw [ht]; decide))
    refine q_ret at0 n en ty_b hz fun x v z' B' H' e n h => q x v z' B' H' ?_ n h
    rw [e]
    cases d <;> first | rfl | exact absurd rfl ht
abbrev sare_known : Stmt := topS 16
theorem scare_known : FnScope ["width", "places", "value", "one"] ["width", "places", "value"] (defScope sare_known) := ⟨rfl, rfl, rfl, by decide +kernel, rfl, by decide +kernel, by decide +kernel⟩
theorem ok_are_known {f : Addr} {fd : FuncData} (F : Df K "are_known" "are_known" sare_known [] f fd) (T : TN mg)  (Fis_known_word : Fo P w K mg base "is_known_word" 4 ["width", "places", "value"] cKnownOne.sp) (Fclimbs : Fo P w K mg base "climbs" 1 ["numbers"] cClimbs.sp) :
    FnOk P w K mg base CX0 5 f fd ["width", "places", "value"] cKnown.sp := by
  refine con_go F scare_known cKnown (fun _ => rfl) fun cdv A outer s H E i G z0 B0 hr hp at0 hz => ⟨_, (pss_cons (ps_if (PW.pt (pw_or (pt_not (pt_val (pe_callB (r := rIsi K) call_isi (by rfl) T.b_isinstance (by decide +kernel) (pa_cons (pv 2) (pa_cons (pe_bltn (v := .ty "list") (by rfl) T.b_list (by decide +kernel) rfl) pa_nil))))) (pw_or1 (pt_not (pt_val (pe_callB (r := rAll K) (cr_all rfl) (by rfl) T.b_all (by decide +kernel) (pa_cons (pe_lc (own := [("one", 3)]) rfl scare_known.nd (pi_list (pv 2)) (blkOk_by (own := [("one", 3)]) (N := ["width", "places", "value", "one"]) (sc := defScope sare_known) (by decide +kernel)) (fun _ _ _ _ _ => (pg_name (i := 3) scare_known.nd rfl (Or.inl rfl))) (fun _ _ _ _ _ => pts_nil) (fun _ _ _ _ _ => (pe_fo Fis_known_word (hr.mono (by decide)) (by rfl) (pa_cons (pv 0) (pa_cons (pv 1) (pa_cons (pv 3) pa_nil)))))) pa_nil))))))) (pss_one (ps_ret pe_bl)) pss_nil)
     (pss_one (ps_ret (pe_fo Fclimbs (hr.mono (by decide)) (by rfl) (pa_cons (pe_lc (own := [("one", 3)]) rfl scare_known.nd (pi_list (pv 2)) (blkOk_by (own := [("one", 3)]) (N := ["width", "places", "value", "one"]) (sc := defScope sare_known) (by decide +kernel)) (fun _ _ _ _ _ => (pg_name (i := 3) scare_known.nd rfl (Or.inl rfl))) (fun _ _ _ _ _ => pts_nil) (fun _ _ _ _ _ => (pe_ix (r := rIxT K) ix_tup (pv 3) pe_int (fun _ _ => rfl)))) pa_nil))))), fun σ Q en q => ?_⟩
  have n0 := Nx.refl at0
  obtain ⟨wd, ps, d⟩ := i
  obtain ⟨hw, sm⟩ := hp
  by_cases hl : d.isT .list = true
  · obtain ⟨ds, rfl⟩ : ∃ ds, d = .lst ds := by cases d <;> first | exact ⟨_, rfl⟩ | cases hl
    have sm' : ds.length ≤ 30000 := sm
    refine AP.q_when at0 n0 en (tt_or (tt_notD (tt_B (ty_isi .list (ty_var rfl)))) fun _ => tt_notD (tt_B (ty_all (ty_lcM ((ty_var (x := Dat.lst ds) rfl).lstDat) (by omega) (by simp) fun x hx => y_knownOne (ty_var rfl) (ty_var rfl) (ty_var rfl) hw)))) hz (fun hb z' B' H' _ n en => ?_) (fun hb z' B' H' _ n en => ?_)
    · refine q_ret at0 n en ty_b hz fun x v z' B' H' e n h => q x v z' B' H' ?_ n h
      rw [e]
      show false = (ds.all (knownOneB wd ps) && _)
      have hb' : (!true || !((ds.map fun x => knownOneB wd ps x).all id)) = true := hb
      rw [List.all_map] at hb'
      have : ds.all (knownOneB wd ps) = false := by
        cases e : ds.all (knownOneB wd ps) with
        | false => rfl
        | true => exact absurd (show (!true || !(ds.all (knownOneB wd ps))) = true from hb') (by rw [e]; decide)
      rw [this, Bool.false_and]
    · have all : ds.all (knownOneB wd ps) = true := by
        have hb' : (!true || !((ds.map fun x => knownOneB wd ps x).all id)) = false := hb
        rw [List.all_map] at hb'
        cases e : ds.all (knownOneB wd ps) with
        | true => rfl
        | false => exact absurd (show (!true || !(ds.all (knownOneB wd ps))) = false from hb') (by rw [e]; decide)
      have one : ∀ x, x ∈ ds → ∃ a b, x = .tup [a, b] ∧ a.whole = true := fun x hx => by
        have k := List.all_eq_true.mp all x hx
        match x, k with
        | .tup [a, b], k => exact ⟨a, b, rfl, by unfold knownOneB at k; simp only [Bool.and_eq_true] at k; exact k.1⟩
      refine q_ret at0 n en ((y_climbs (ty_lcM (f := fun d => d.fst.toI) ((ty_var (x := Dat.lst ds) rfl).lstDat) (by omega) (by simp) fun x hx => ?_) (by rw [List.length_map]; exact sm')).to ?_) hz q
      · obtain ⟨a, b, rfl, ha⟩ := one x hx
        exact (ty_ixT (ds := [a, b]) (ty_var rfl) ty_i rfl).intOf ha
      · show climbs (ds.map fun d => d.fst.toI) = (ds.all (knownOneB wd ps) && climbs (ds.map fun d => d.fst.toI))
        rw [all, Bool.true_and]
  · refine AP.q_when at0 n0 en (tt_or (c2 := 0) (b := false) (tt_notD (tt_B (ty_isi .list (ty_var (x := d) rfl)))) fun z => absurd (by simpa using z) hl) hz (fun hb z' B' H' _ n en => ?_) (fun hb => absurd hb (by simp at hl; rw [hl]; decide))
    refine q_ret at0 n en ty_b hz fun x v z' B' H' e n h => q x v z' B' H' ?_ n h
    rw [e]
    cases d <;> first | rfl | exact absurd rfl hl
abbrev sneed_width : Stmt := topS 18
theorem scneed_width : FnScope ["width"] ["width"] (defScope sneed_width) := ⟨rfl, rfl, rfl, by decide +kernel, rfl, by decide +kernel, by decide +kernel⟩
theorem ok_need_width {f : Addr} {fd : FuncData} (F : Df K "need_width" "need_width" sneed_width [] f fd) (T : TN mg)  (Ffits_width : Fo P w K mg base "fits_width" 3 ["value"] cFitsWidth.sp) :
    FnOk P w K mg base CX0 4 f fd ["width"] cNeedWidth.sp := by
  refine con_go F scneed_width cNeedWidth (fun _ => rfl) fun cdv A outer s H E i G z0 B0 hr hp at0 hz => ⟨_, (pss_one (ps_if (pt_not (pt_val (pe_fo Ffits_width (hr.mono (by decide)) (by rfl) (pa_cons (pv 0) pa_nil)))) (pss_one ps_never) pss_nil)), fun σ Q en q => ?_⟩
  have n0 := Nx.refl at0
  have hw : 1 ≤ i ∧ i ≤ 64 := hp
  refine s_not at0 n0 en ((tt_notD (tt_B (y_fitsWidth ((ty_var (x := i) rfl).datInt)))).to ?_) hz fun z' B' H' _ n en => q () .non z' B' H' trivial n rfl
  show (!(decide ((1 : Int) ≤ i) && decide (i ≤ 64))) = false
  rw [decide_eq_true hw.1, decide_eq_true hw.2] <;> rfl
abbrev sneed_places : Stmt := topS 19
theorem scneed_places : FnScope ["width", "places"] ["width", "places"] (defScope sneed_places) := ⟨rfl, rfl, rfl, by decide +kernel, rfl, by decide +kernel, by decide +kernel⟩
theorem ok_need_places {f : Addr} {fd : FuncData} (F : Df K "need_places" "need_places" sneed_places [] f fd) (T : TN mg)  (Fare_places : Fo P w K mg base "are_places" 5 ["width", "value"] cArePlaces.sp) :
    FnOk P w K mg base CX0 6 f fd ["width", "places"] cNeedPlaces.sp := by
  refine con_go F scneed_places cNeedPlaces (fun _ => rfl) fun cdv A outer s H E i G z0 B0 hr hp at0 hz => ⟨_, (pss_one (ps_if (pt_not (pt_val (pe_fo Fare_places (hr.mono (by decide)) (by rfl) (pa_cons (pv 0) (pa_cons (pv 1) pa_nil))))) (pss_one ps_never) pss_nil)), fun σ Q en q => ?_⟩
  have n0 := Nx.refl at0
  obtain ⟨wd, ps⟩ := i
  obtain ⟨hw, hpl, sm⟩ := hp
  refine s_not at0 n0 en ((tt_notD (tt_B (y_arePlaces (ty_var rfl) ((ty_var (x := ps) rfl).datInts.datLst) ⟨hw, by show (ps.map Dat.int).length ≤ 30000; rw [List.length_map]; exact sm⟩))).to ?_) hz fun z' B' H' _ n en => q () .non z' B' H' trivial n rfl
  rw [hpl] <;> rfl
abbrev sis_width : Stmt := topS 21
theorem scis_width : FnScope ["value"] ["value"] (defScope sis_width) := ⟨rfl, rfl, rfl, by decide +kernel, rfl, by decide +kernel, by decide +kernel⟩
theorem ok_is_width {f : Addr} {fd : FuncData} (F : Df K "is_width" "is_width" sis_width [] f fd) (T : TN mg)  (Ffits_width : Fo P w K mg base "fits_width" 3 ["value"] cFitsWidth.sp) :
    FnOk P w K mg base CX0 4 f fd ["value"] cIsWidth.sp := by
  refine con_go F scis_width cIsWidth (fun _ => rfl) fun cdv A outer s H E i G z0 B0 hr hp at0 hz => ⟨_, (pss_one (ps_ret (pe_fo Ffits_width (hr.mono (by decide)) (by rfl) (pa_cons (pv 0) pa_nil)))), fun σ Q en q => ?_⟩
  have n0 := Nx.refl at0
  exact q_ret at0 n0 en (y_fitsWidth (ty_var rfl)) hz q
abbrev sis_word : Stmt := topS 22
theorem scis_word : FnScope ["width", "value"] ["width", "value"] (defScope sis_word) := ⟨rfl, rfl, rfl, by decide +kernel, rfl, by decide +kernel, by decide +kernel⟩
theorem ok_is_word {f : Addr} {fd : FuncData} (F : Df K "is_word" "is_word" sis_word [] f fd) (T : TN mg)  (Fneed_width : Fo P w K mg base "need_width" 4 ["width"] cNeedWidth.sp) (Ffits_word : Fo P w K mg base "fits_word" 3 ["width", "value"] cFitsWord.sp) :
    FnOk P w K mg base CX0 5 f fd ["width", "value"] cIsWord.sp := by
  refine con_go F scis_word cIsWord (fun _ => rfl) fun cdv A outer s H E i G z0 B0 hr hp at0 hz => ⟨_, (pss_cons (ps_expr (pe_fo Fneed_width (hr.mono (by decide)) (by rfl) (pa_cons (pv 0) pa_nil)))
     (pss_one (ps_ret (pe_fo Ffits_word (hr.mono (by decide)) (by rfl) (pa_cons (pv 0) (pa_cons (pv 1) pa_nil)))))), fun σ Q en q => ?_⟩
  have n0 := Nx.refl at0
  obtain ⟨wd, d⟩ := i
  have hw : wOk wd := hp
  exact q_dropS at0 n0 en (y_needWidth (ty_var rfl) hw) hz fun _ z' B' H' _ _ n en => q_ret at0 n en (y_fitsWord (ty_var rfl) (ty_var rfl) hw) hz q
abbrev sis_places : Stmt := topS 23
theorem scis_places : FnScope ["width", "value"] ["width", "value"] (defScope sis_places) := ⟨rfl, rfl, rfl, by decide +kernel, rfl, by decide +kernel, by decide +kernel⟩
theorem ok_is_places {f : Addr} {fd : FuncData} (F : Df K "is_places" "is_places" sis_places [] f fd) (T : TN mg)  (Fneed_width : Fo P w K mg base "need_width" 4 ["width"] cNeedWidth.sp) (Fare_places : Fo P w K mg base "are_places" 5 ["width", "value"] cArePlaces.sp) :
    FnOk P w K mg base CX0 6 f fd ["width", "value"] cIsPlaces.sp := by
  refine con_go F scis_places cIsPlaces (fun _ => rfl) fun cdv A outer s H E i G z0 B0 hr hp at0 hz => ⟨_, (pss_cons (ps_expr (pe_fo Fneed_width (hr.mono (by decide)) (by rfl) (pa_cons (pv 0) pa_nil)))
     (pss_one (ps_ret (pe_fo Fare_places (hr.mono (by decide)) (by rfl) (pa_cons (pv 0) (pa_cons (pv 1) pa_nil)))))), fun σ Q en q => ?_⟩
  have n0 := Nx.refl at0
  obtain ⟨wd, d⟩ := i
  obtain ⟨hw, sm⟩ := hp
  exact q_dropS at0 n0 en (y_needWidth (ty_var rfl) hw) hz fun _ z' B' H' _ _ n en => q_ret at0 n en (y_arePlaces (ty_var rfl) (ty_var rfl) ⟨hw, sm⟩) hz q
abbrev sis_words : Stmt := topS 24
theorem scis_words : FnScope ["width", "places", "value"] ["width", "places", "value"] (defScope sis_words) := ⟨rfl, rfl, rfl, by decide +kernel, rfl, by decide +kernel, by decide +kernel⟩
theorem ok_is_words {f : Addr} {fd : FuncData} (F : Df K "is_words" "is_words" sis_words [] f fd) (T : TN mg)  (Fneed_width : Fo P w K mg base "need_width" 4 ["width"] cNeedWidth.sp) (Fneed_places : Fo P w K mg base "need_places" 6 ["width", "places"] cNeedPlaces.sp) (Fare_words_at : Fo P w K mg base "are_words_at" 5 ["width", "places", "value"] cWordsAt.sp) :
    FnOk P w K mg base CX0 7 f fd ["width", "places", "value"] cIsWords.sp := by
  refine con_go F scis_words cIsWords (fun _ => rfl) fun cdv A outer s H E i G z0 B0 hr hp at0 hz => ⟨_, (pss_cons (ps_expr (pe_fo Fneed_width (hr.mono (by decide)) (by rfl) (pa_cons (pv 0) pa_nil)))
     (pss_cons (ps_expr (pe_fo Fneed_places (hr.mono (by decide)) (by rfl) (pa_cons (pv 0) (pa_cons (pv 1) pa_nil))))
     (pss_one (ps_ret (pe_fo Fare_words_at (hr.mono (by decide)) (by rfl) (pa_cons (pv 0) (pa_cons (pv 1) (pa_cons (pv 2) pa_nil)))))))), fun σ Q en q => ?_⟩
  have n0 := Nx.refl at0
  obtain ⟨wd, ps, d⟩ := i
  obtain ⟨hw, hpl, sm⟩ := hp
  exact q_dropS at0 n0 en (y_needWidth (ty_var rfl) hw) hz fun _ z' B' H' _ _ n en => q_dropS at0 n en (y_needPlaces (ty_var rfl) (ty_var rfl) ⟨hw, hpl⟩) hz fun _ z' B' H' _ _ n en => q_ret at0 n en (y_wordsAt (ty_var rfl) (ty_var rfl) (ty_var rfl) ⟨hw, sm⟩) hz q
abbrev sis_known : Stmt := topS 25
theorem scis_known : FnScope ["width", "places", "value"] ["width", "places", "value"] (defScope sis_known) := ⟨rfl, rfl, rfl, by decide +kernel, rfl, by decide +kernel, by decide +kernel⟩
theorem ok_is_known {f : Addr} {fd : FuncData} (F : Df K "is_known" "is_known" sis_known [] f fd) (T : TN mg)  (Fneed_width : Fo P w K mg base "need_width" 4 ["width"] cNeedWidth.sp) (Fneed_places : Fo P w K mg base "need_places" 6 ["width", "places"] cNeedPlaces.sp) (Fare_known : Fo P w K mg base "are_known" 5 ["width", "places", "value"] cKnown.sp) :
    FnOk P w K mg base CX0 7 f fd ["width", "places", "value"] cIsKnown.sp := by
  refine con_go F scis_known cIsKnown (fun _ => rfl) fun cdv A outer s H E i G z0 B0 hr hp at0 hz => ⟨_, (pss_cons (ps_expr (pe_fo Fneed_width (hr.mono (by decide)) (by rfl) (pa_cons (pv 0) pa_nil)))
     (pss_cons (ps_expr (pe_fo Fneed_places (hr.mono (by decide)) (by rfl) (pa_cons (pv 0) (pa_cons (pv 1) pa_nil))))
     (pss_one (ps_ret (pe_fo Fare_known (hr.mono (by decide)) (by rfl) (pa_cons (pv 0) (pa_cons (pv 1) (pa_cons (pv 2) pa_nil)))))))), fun σ Q en q => ?_⟩
  have n0 := Nx.refl at0
  obtain ⟨wd, ps, d⟩ := i
  obtain ⟨hw, hpl, sm⟩ := hp
  exact q_dropS at0 n0 en (y_needWidth (ty_var rfl) hw) hz fun _ z' B' H' _ _ n en => q_dropS at0 n en (y_needPlaces (ty_var rfl) (ty_var rfl) ⟨hw, hpl⟩) hz fun _ z' B' H' _ _ n en => q_ret at0 n en (y_known (ty_var rfl) (ty_var rfl) (ty_var rfl) ⟨hw, sm⟩) hz q
end
end K01

set_option maxHeartbeats 4000000
namespace K01
open PySem PySem.Spec PyProof.Rows L2 AP Evl

/-! what the law's own helpers say -/
def cYes : Con (Bool × Bool) Bool := ⟨fun i => [Py.is i.1, Py.is i.2], nop, fun _ => 0, fun i b => b = decide (i.1 = i.2)⟩
/-- ascending words -/
def Asc (w : Int) (ps : List Int) : Prop := 0 < ps.length ∧ ps.length ≤ 100 ∧ (∀ p ∈ ps, 0 ≤ p ∧ p < 2 ^ w.toNat) ∧ ps.Pairwise (· < ·)
def cLPlaces : Con (Addr × Int × Int) (List Int) := ⟨fun i => [Py.is (GenR.mk i.1), Py.is i.2.1, Py.is i.2.2], fun i G => G = some i.1 ∧ wOk i.2.1 ∧ 1 ≤ i.2.2 ∧ i.2.2 ≤ 100, fun _ => 40000, fun i ps => Asc i.2.1 ps⟩
def cLWords : Con (Addr × Int × Int) (List Int) := ⟨fun i => [Py.is (GenR.mk i.1), Py.is i.2.1, Py.is i.2.2], fun i G => G = some i.1 ∧ wOk i.2.1 ∧ 0 ≤ i.2.2 ∧ i.2.2 ≤ 100, fun _ => 40000, fun i ws => ws.length = i.2.2.toNat ∧ ∀ x ∈ ws, 0 ≤ x ∧ x < 2 ^ i.2.1.toNat⟩
def cLKnown : Con (Addr × Int × List Int) (List (Int × Int)) := ⟨fun i => [Py.is (GenR.mk i.1), Py.is i.2.1, Py.is i.2.2], fun i G => G = some i.1 ∧ wOk i.2.1 ∧ i.2.2.length ≤ 100 ∧ ∀ x ∈ i.2.2, 0 ≤ x ∧ x < 2 ^ i.2.1.toNat, fun _ => 80000,
  fun i l => l.length ≤ 100 ∧ ∀ x ∈ l, (0 ≤ x.1 ∧ x.1 < 2 ^ i.2.1.toNat) ∧ (0 ≤ x.2 ∧ x.2 < 2 ^ i.2.1.toNat)⟩
def oddL (w : Int) : List Dat := [.non, .bl true, .int (0 - 1), .int (2 ^ w.toNat), .str "1", .lst [.int 0], .tup [.int 0], .dic, .int (10 ^ 29)]
def cOdd : Con Int (List Dat) := ⟨fun i => [Py.is i], fun i _ => wOk i, fun _ => 0, fun i ds => ds = oddL i⟩
def Small (ds : List Dat) : Prop := ds.length ≤ 1000 ∧ ∀ d ∈ ds, d.small
def cBent : Con (Addr × Int × List Int) (List Dat) := ⟨fun i => [Py.is (GenR.mk i.1), Py.is i.2.1, Py.is i.2.2], fun i G => G = some i.1 ∧ wOk i.2.1 ∧ i.2.2.length ≤ 100, fun _ => 300, fun _ ds => Small ds⟩
def cBentKnown : Con (Addr × Int × List Int × List (Int × Int)) (List Dat) := ⟨fun i => [Py.is (GenR.mk i.1), Py.is i.2.1, Py.is i.2.2.1, Py.is i.2.2.2], fun i G => G = some i.1 ∧ wOk i.2.1 ∧ (0 < i.2.2.1.length ∧ i.2.2.1.length ≤ 100) ∧ i.2.2.2.length ≤ 100, fun _ => 600, fun _ ds => Small ds⟩
def cRight : Con Addr Bool := ⟨fun g => [Py.is (GenR.mk g)], fun g G => G = some g, fun _ => 1000000, fun _ b => b = true⟩
theorem climbs_of {ns : List Int} (h : ns.Pairwise (· < ·)) : climbs ns = true := by
  unfold climbs
  rw [List.all_eq_true]
  intro i hi
  have hi := List.mem_range.mp hi
  have h1 : i < ns.length := by omega
  have h2 : i + 1 < ns.length := by omega
  rw [decide_eq_true_eq, List.getD_eq_getElem?_getD, List.getD_eq_getElem?_getD, List.getElem?_eq_getElem h1, List.getElem?_eq_getElem h2]
  exact List.pairwise_iff_getElem.mp h i (i + 1) h1 h2 (Nat.lt_succ_self i)
theorem word_of {w p : Int} (h : 0 ≤ p ∧ p < 2 ^ w.toNat) : (Dat.int p).word w = true := by
  show (decide (0 ≤ p) && decide (p ≤ 2 ^ w.toNat - 1)) = true
  rw [decide_eq_true h.1, decide_eq_true (by omega)] <;> rfl
theorem Asc.places {w : Int} {ps : List Int} (h : Asc w ps) : Places w ps := by
  refine ⟨?_, by have := h.2.1; omega⟩
  show ((ps.map Dat.int).all (Dat.word w) && (decide (0 < (ps.map Dat.int).length) && climbs ((ps.map Dat.int).map Dat.toI))) = true
  rw [List.map_map, List.length_map, decide_eq_true h.1, show ps.map (Dat.toI ∘ Dat.int) = ps from List.map_id _, climbs_of h.2.2.2, List.all_map]
  simp only [Bool.and_true, List.all_eq_true]
  exact fun x hx => word_of (h.2.2.1 x hx)
theorem add_new (found : List Int) (x : Int) : found ++ (List.replicate (if (!decide (x ∈ found)) = true then (1 : Int) else 0).toNat [x]).flatten = if x ∈ found then found else found ++ [x] := by
  by_cases h : x ∈ found
  · rw [if_pos h, decide_eq_true h]
    show found ++ [] = found
    rw [List.append_nil]
  · rw [if_neg h, decide_eq_false h]
    rfl
theorem notclimb_eq (ns : List Int) : (((((List.range ((ns.length : Int) - 1).toNat).map fun i : Nat => 1 + (i : Int)).filter fun x : Int => decide (ns.getD x.toNat 0 ≤ ns.getD (x - 1).toNat 0)).map fun x : Int => x)).isEmpty = climbs ns := by
  rw [List.map_id', Bool.eq_iff_iff, List.isEmpty_iff, List.filter_eq_nil_iff]
  unfold climbs
  rw [List.all_eq_true]
  constructor
  · intro h i hi
    have hi := List.mem_range.mp hi
    have := h (1 + (i : Int)) (List.mem_map.mpr ⟨i, List.mem_range.mpr (by omega), rfl⟩)
    rw [show (1 + (i : Int) - 1).toNat = i by omega, show (1 + (i : Int)).toNat = i + 1 by omega] at this
    rw [decide_eq_true_eq]
    rw [decide_eq_true_eq] at this
    omega
  · intro h x hx
    obtain ⟨i, hi, rfl⟩ := List.mem_map.mp hx
    have hi := List.mem_range.mp hi
    have := h i (List.mem_range.mpr (by omega))
    rw [show (1 + (i : Int) - 1).toNat = i by omega, show (1 + (i : Int)).toNat = i + 1 by omega, decide_eq_true_eq]
    rw [decide_eq_true_eq] at this
    omega
theorem known_not {w : Int} {ps : List Int} {ds : List Dat} {x : Dat} (hx : x ∈ ds) (h : knownOneB w ps x = false) : knownB w ps (.lst ds) = false := by
  show (ds.all (knownOneB w ps) && _) = false
  have : ds.all (knownOneB w ps) = false := by
    cases e : ds.all (knownOneB w ps) with
    | false => rfl
    | true => rw [List.all_eq_true.mp e x hx] at h; cases h
  rw [this, Bool.false_and]
section
variable {K : PySem.W.Frag} {G : Option Addr} {c1 c2 : Nat} {ta tb : TE} {Γ : AP.Ctx}
theorem ty_fstI {d a b : Dat} (h : Ty G c1 ta Γ (· = d)) (h2 : Ty G c2 tb Γ (· = (0 : Int))) (e : d = .tup [a, b]) (ha : a.whole = true) : Ty G (c1 + c2) (tOp (rIxT K) ta tb) Γ (· = d.fst.toI) := by
  subst e
  exact (ty_ixT (ds := [a, b]) h h2 rfl).intOf ha
end
theorem pow_29 : PowOk 10 29 := ⟨by decide, by decide +kernel⟩
theorem sm_nil : ∀ d ∈ ([] : List Dat), d.small := by simp
theorem sm_cons {d : Dat} {ds : List Dat} (h : d.small) (k : ∀ d ∈ ds, d.small) : ∀ x ∈ d :: ds, x.small := fun x hx => by
  rcases List.mem_cons.mp hx with rfl | hx
  · exact h
  · exact k x hx
theorem sm_app {ds es : List Dat} (h : ∀ d ∈ ds, d.small) (k : ∀ d ∈ es, d.small) : ∀ x ∈ ds ++ es, x.small := fun x hx => by
  rcases List.mem_append.mp hx with hx | hx
  · exact h x hx
  · exact k x hx
section
variable {G : Option Addr} {c0 c1 c2 c3 : Nat} {t0 t1 t2 t3 : TE} {Γ : AP.Ctx} {g : Addr}
theorem y_yes {E : XK} {a b : Bool} (h0 : Ty G c0 t0 Γ (· = a)) (h1 : Ty G c1 t1 Γ (· = b)) : Ty G (c0 + (c1 + 0) + 0) (tCall cYes.sp [] E (tCons t0 (tCons t1 tNil))) Γ (· = decide (a = b)) := ty_call (C := cYes) (a, b) (ta_cons h0 (ta_cons h1 ta_nil)) trivial
theorem y_lplaces {E : XK} {wd most : Int} (h0 : Ty (some g) c0 t0 Γ (· = GenR.mk g)) (h1 : Ty (some g) c1 t1 Γ (· = wd)) (h2 : Ty (some g) c2 t2 Γ (· = most)) (p : wOk wd ∧ 1 ≤ most ∧ most ≤ 100) :
    Ty (some g) (c0 + (c1 + (c2 + 0)) + 40000) (tCall cLPlaces.sp [] E (tCons t0 (tCons t1 (tCons t2 tNil)))) Γ (Asc wd) := ty_call (C := cLPlaces) (g, wd, most) (ta_cons h0 (ta_cons h1 (ta_cons h2 ta_nil))) ⟨rfl, p⟩
theorem y_lwords {E : XK} {wd many : Int} (h0 : Ty (some g) c0 t0 Γ (· = GenR.mk g)) (h1 : Ty (some g) c1 t1 Γ (· = wd)) (h2 : Ty (some g) c2 t2 Γ (· = many)) (p : wOk wd ∧ 0 ≤ many ∧ many ≤ 100) :
    Ty (some g) (c0 + (c1 + (c2 + 0)) + 40000) (tCall cLWords.sp [] E (tCons t0 (tCons t1 (tCons t2 tNil)))) Γ (fun ws : List Int => ws.length = many.toNat ∧ ∀ x ∈ ws, 0 ≤ x ∧ x < 2 ^ wd.toNat) := ty_call (C := cLWords) (g, wd, many) (ta_cons h0 (ta_cons h1 (ta_cons h2 ta_nil))) ⟨rfl, p⟩
theorem y_lknown {E : XK} {wd : Int} {ps : List Int} (h0 : Ty (some g) c0 t0 Γ (· = GenR.mk g)) (h1 : Ty (some g) c1 t1 Γ (· = wd)) (h2 : Ty (some g) c2 t2 Γ (· = ps)) (p : wOk wd ∧ ps.length ≤ 100 ∧ ∀ x ∈ ps, 0 ≤ x ∧ x < 2 ^ wd.toNat) :
    Ty (some g) (c0 + (c1 + (c2 + 0)) + 80000) (tCall cLKnown.sp [] E (tCons t0 (tCons t1 (tCons t2 tNil)))) Γ (fun l : List (Int × Int) => l.length ≤ 100 ∧ ∀ x ∈ l, (0 ≤ x.1 ∧ x.1 < 2 ^ wd.toNat) ∧ (0 ≤ x.2 ∧ x.2 < 2 ^ wd.toNat)) :=
  ty_call (C := cLKnown) (g, wd, ps) (ta_cons h0 (ta_cons h1 (ta_cons h2 ta_nil))) ⟨rfl, p⟩
theorem y_odd {E : XK} {wd : Int} (h0 : Ty G c0 t0 Γ (· = wd)) (p : wOk wd) : Ty G (c0 + 0 + 0) (tCall cOdd.sp [] E (tCons t0 tNil)) Γ (· = oddL wd) := ty_call (C := cOdd) wd (ta_cons h0 ta_nil) p
theorem y_bent {E : XK} {wd : Int} {row : List Int} (h0 : Ty (some g) c0 t0 Γ (· = GenR.mk g)) (h1 : Ty (some g) c1 t1 Γ (· = wd)) (h2 : Ty (some g) c2 t2 Γ (· = row)) (p : wOk wd ∧ row.length ≤ 100) :
    Ty (some g) (c0 + (c1 + (c2 + 0)) + 300) (tCall cBent.sp [] E (tCons t0 (tCons t1 (tCons t2 tNil)))) Γ Small := ty_call (C := cBent) (g, wd, row) (ta_cons h0 (ta_cons h1 (ta_cons h2 ta_nil))) ⟨rfl, p⟩
theorem y_bentKnown {E : XK} {wd : Int} {ps : List Int} {kn : List (Int × Int)} (h0 : Ty (some g) c0 t0 Γ (· = GenR.mk g)) (h1 : Ty (some g) c1 t1 Γ (· = wd)) (h2 : Ty (some g) c2 t2 Γ (· = ps)) (h3 : Ty (some g) c3 t3 Γ (· = kn)) (p : wOk wd ∧ (0 < ps.length ∧ ps.length ≤ 100) ∧ kn.length ≤ 100) :
    Ty (some g) (c0 + (c1 + (c2 + (c3 + 0))) + 600) (tCall cBentKnown.sp [] E (tCons t0 (tCons t1 (tCons t2 (tCons t3 tNil))))) Γ Small := ty_call (C := cBentKnown) (g, wd, ps, kn) (ta_cons h0 (ta_cons h1 (ta_cons h2 (ta_cons h3 ta_nil)))) ⟨rfl, p⟩
end

section
variable {P : Program} {w : World} {K : PySem.W.Frag} {mg : Str → Option Value} {base : Heap}
abbrev s_law_yes : Stmt := topS 31
theorem sc_law_yes : FnScope ["_law_told", "_law_due"] ["_law_told", "_law_due"] (defScope s_law_yes) := ⟨rfl, rfl, rfl, by decide +kernel, rfl, by decide +kernel, by decide +kernel⟩
theorem ok_law_yes {f : Addr} {fd : FuncData} (F : Df K "_law_yes" "_law_yes" s_law_yes [] f fd) (T : TN mg)   :
    FnOk P w K mg base CX0 1 f fd ["_law_told", "_law_due"] cYes.sp := by
  refine con_go F sc_law_yes cYes (fun _ => rfl) fun cdv A outer s H E i G z0 B0 hr hp at0 hz => ⟨_, (pss_one (ps_ret (pe_and (pe_callB (r := rIsi K) call_isi (by rfl) T.b_isinstance (by decide +kernel) (pa_cons (pv 0) (pa_cons (pe_bltn (v := .ty "bool") (by rfl) T.b_bool (by decide +kernel) rfl) pa_nil))) (pe_one (pe_cmpR op_eq (pv 0) (pv 1) (nomark _)))))), fun σ Q en q => ?_⟩
  have n0 := Nx.refl at0
  obtain ⟨a, b⟩ := i
  exact q_ret at0 n0 en ((ty_andV (c2 := 0) (ty_isi .bool (ty_var (x := a) rfl).datBl) fun _ => ty_eqB (ty_var rfl) (ty_var rfl)).to (show (true && decide (a = b)) = _ from Bool.true_and _)) hz q
abbrev s_law_power : Stmt := topS 32
theorem sc_law_power : FnScope ["_law_number", "_law_times", "_law_found", "_law_turn"] ["_law_number", "_law_times"] (defScope s_law_power) := ⟨rfl, rfl, rfl, by decide +kernel, rfl, by decide +kernel, by decide +kernel⟩
theorem ok_law_power {f : Addr} {fd : FuncData} (F : Df K "_law_power" "_law_power" s_law_power [] f fd) (T : TN mg)   :
    FnOk P w K mg base CX0 1 f fd ["_law_number", "_law_times"] cPower.sp := by
  refine con_go F sc_law_power cPower (fun _ => rfl) fun cdv A outer s H E i G z0 B0 hr hp at0 hz => ⟨_, (pss_cons (ps_set (i := 2) sc_law_power.nd rfl (.inl rfl) pe_int)
     (pss_cons (ps_for PassesOwn.never rfl (pi_range1 (by rfl) T.b_range (pa_cons (pv 1) pa_nil)) (pg_name (i := 3) sc_law_power.nd rfl (.inl rfl))
      (pss_one (ps_set (i := 2) sc_law_power.nd rfl (.inl rfl) (pe_op op_mulW (pv 2) (pv 0)))))
     (pss_one (ps_ret (pv 2))))), fun σ Q en q => ?_⟩
  have n0 := Nx.refl at0
  obtain ⟨nm, t⟩ := i
  obtain ⟨h1, h2, h3⟩ := hp
  have hz1 : z0 + 0 ≤ 2 ^ 50 := hz
  refine q_asgS at0 n0 en (i := 2) ty_i hz fun x z' B' H' σ' ex _ n en => ?_
  subst ex
  refine q_forS at0 n en (cb := 0) (ti_rng1 (ta_cons (ty_var rfl) ta_nil) ⟨by omega, by omega⟩) hz
    (fun i Γ _ _ => ∃ o, Γ = [some (Py.is nm), some (Py.is t), some (Py.is (nm ^ i)), o]) (fun _ _ _ _ _ => ⟨none, by rw [Int.pow_zero] <;> rfl⟩) (fun _ _ _ _ _ h _ => h) (fun m em Bs i Γ' z' B' H' σ' hi inv eb n en => ?_) fun m em Γ' z' B' H' σ' inv n en => ?_
  · obtain ⟨o, rfl⟩ := inv
    exact q_asg at0 n en (i := 2) (ty_I (C := CMulW) (ty_var rfl) (ty_var rfl) (mul_pow h3 (by omega))) (by simpa using hz1) fun x z' B' H' σ' ex s' n en =>
      ⟨_, z', B', ⟨_, by subst ex; rw [Int.pow_succ] <;> rfl⟩, eb.trans s'.up, n.le (by simp), en⟩
  · obtain ⟨o, rfl⟩ := inv
    subst em
    exact q_ret at0 n en (ty_var rfl) (by simpa using hz1) fun x v z' B' H' e n h => q x v z' B' H' e (n.le (by simp)) h
abbrev s_law_places : Stmt := topS 33
theorem sc_law_places : FnScope ["_law_generator_here", "_law_width", "_law_most", "_law_top", "_law_found", "_law_turn", "_law_place"] ["_law_generator_here", "_law_width", "_law_most"] (defScope s_law_places) := ⟨rfl, rfl, rfl, by decide +kernel, rfl, by decide +kernel, by decide +kernel⟩
theorem ok_law_places {f : Addr} {fd : FuncData} (F : Df K "_law_places" "_law_places" s_law_places [] f fd) (T : TN mg)  (F_law_random : Fo P w K mg base "_law_random" 2 ["_law_generator_here", "_law_bound"] cRandom.sp) (F_law_power : Fo P w K mg base "_law_power" 1 ["_law_number", "_law_times"] cPower.sp) :
    FnOk P w K mg base CX0 3 f fd ["_law_generator_here", "_law_width", "_law_most"] cLPlaces.sp := by
  refine con_go F sc_law_places cLPlaces (fun _ => rfl) fun cdv A outer s H E i G z0 B0 hr hp at0 hz => ⟨_, (pss_cons (ps_par (i := 3) (j := 4) rfl sc_law_places.nd rfl rfl (by decide) rfl rfl (pa_cons (pe_fo F_law_power (hr.mono (by decide)) (by rfl) (pa_cons pe_int (pa_cons (pv 1) pa_nil))) (pa_cons (pe_lst pa_nil) pa_nil)) (by rfl))
     (pss_cons (ps_for PassesOwn.never rfl (pi_range1 (by rfl) T.b_range (pa_cons (pe_op op_add pe_int (pe_fo F_law_random (hr.mono (by decide)) (by rfl) (pa_cons (pv 0) (pa_cons (pv 2) pa_nil)))) pa_nil)) (pg_name (i := 5) sc_law_places.nd rfl (.inl rfl))
      (pss_cons (ps_set (i := 6) sc_law_places.nd rfl (.inl rfl) (pe_fo F_law_random (hr.mono (by decide)) (by rfl) (pa_cons (pv 0) (pa_cons (pv 3) pa_nil))))
       (pss_one (ps_set (i := 4) sc_law_places.nd rfl (.inl rfl) (pe_op op_cat (pv 4) (pe_op op_rep (pe_lst (pa_cons (pv 6) pa_nil)) (pe_callTy (r := rInt1) call_int1 (by rfl) T.b_int (by decide +kernel) (pa_cons (pe_cmpR (r := rIn K true) op_notIn_seq (pv 6) (pv 4) (by rfl)) pa_nil))))))))
     (pss_one (ps_ret (pe_callB (r := rSortedI K) cr_sortedI (by rfl) T.b_sorted (by decide +kernel) (pa_cons (pv 4) pa_nil)))))), fun σ Q en q => ?_⟩
  have n0 := Nx.refl at0
  obtain ⟨g, wd, most⟩ := i
  obtain ⟨eG, hw, hm1, hm2⟩ := hp
  subst eG
  have hw : 1 ≤ wd ∧ wd ≤ 64 := hw
  have hm1 : 1 ≤ most := hm1
  have hm2 : most ≤ 100 := hm2
  have hz1 : z0 + 40000 ≤ 2 ^ 50 := hz
  obtain ⟨tp, tp2⟩ := two_pow wd (by omega) (by omega)
  refine q_par at0 n0 en (y_power ty_i (ty_var (x := wd) rfl) ⟨by omega, by omega, by decide⟩) (ty_nil (α := Int)) (by omega) fun x y z' B' H' σ' ex ey _ n en => ?_
  subst ex ey
  refine q_forS at0 n en (cb := 300) (ti_rng1N (ta_consN (ty_I0N ty_i (y_random (ty_var rfl) (ty_var rfl) (small_b (by omega) (by omega)))) ta_nil) (fun nn ⟨a, b, e1, e2, e3⟩ => by have e3 : nn = a + b := e3; omega)) (by omega)
    (fun i Γ _ _ => ∃ (found : List Int) (o5 o6 : Option VP), Γ = [some (Py.is (GenR.mk g)), some (Py.is wd), some (Py.is most), some (Py.is ((2 : Int) ^ wd.toNat)), some (Py.is found), o5, o6] ∧
      found.Nodup ∧ (∀ p ∈ found, 0 ≤ p ∧ p < 2 ^ wd.toNat) ∧ found.length ≤ i ∧ (0 < i → 0 < found.length))
    (fun _ _ _ _ _ => ⟨[], none, none, rfl, List.nodup_nil, by simp, Nat.le_refl _, fun h => absurd h (by decide)⟩) (fun _ _ _ _ _ h _ => h) (fun m em Bs i Γ' z' B' H' σ' hi inv eb n en => ?_) fun m em Γ' z' B' H' σ' inv n en => ?_
  · obtain ⟨nn, ⟨a, b, e1, e2, e3⟩, em⟩ := em
    have e3 : nn = a + b := e3
    obtain ⟨found, o5, o6, rfl, nd, bd, len, ne⟩ := inv
    refine q_asgS at0 n en (i := 6) (y_random (ty_var rfl) (ty_var (x := (2 : Int) ^ wd.toNat) rfl) (small_b tp tp2)) (by omega) fun x z' B' H' σ' hx s' n en => ?_
    refine q_asg at0 n en (i := 4) (ty_cat (ty_var (x := found) rfl) (ty_rep (ty_lit (tl_cons (ty_var (x := x) rfl) tl_nil) (by simp)) (ty_intB (ty_notIn (ty_var (x := x) rfl) (ty_var (x := found) rfl))) (by split <;> decide) (by split <;> simp)) (by rw [List.length_flatten]; simp; split <;> simp <;> omega)) (by omega) fun y z' B' H' σ' ey s2 n en => ?_
    have ey : y = if x ∈ found then found else found ++ [x] := ey.trans (add_new found x)
    refine ⟨_, z', B', ⟨y, _, _, rfl, ?_⟩, (eb.trans s'.up).trans s2.up, n.le (by omega), en⟩
    rw [ey]
    by_cases h : x ∈ found
    · rw [if_pos h]
      exact ⟨nd, bd, by omega, fun _ => List.length_pos_of_mem h⟩
    · rw [if_neg h]
      refine ⟨List.nodup_append.mpr ⟨nd, by simp, fun a ha b hb => ?_⟩, fun p hp => ?_, by rw [List.length_append]; simp; omega, fun _ => by rw [List.length_append]; simp⟩
      · rw [List.mem_singleton.mp hb]
        exact fun e => h (e ▸ ha)
      · rcases List.mem_append.mp hp with hp | hp
        · exact bd p hp
        · rw [List.mem_singleton.mp hp]
          exact hx
  · obtain ⟨nn, ⟨a, b, e1, e2, e3⟩, em⟩ := em
    have e3 : nn = a + b := e3
    obtain ⟨found, o5, o6, rfl, nd, bd, len, ne⟩ := inv
    refine q_ret at0 n en (ty_sortedN (ty_var (x := found) rfl)) (by omega) fun l v z' B' H' hl n h => q l v z' B' H' ?_ (n.le (by show _ ≤ 40000; omega)) h
    obtain ⟨ns, rfl, pm, so⟩ := hl
    have lenL := pm.length_eq
    have ndL : l.Nodup := pm.symm.nodup nd
    refine ⟨?_, ?_, fun p hp => bd p (pm.mem_iff.mp hp), ?_⟩
    · have := ne (by omega)
      omega
    · omega
    · have : l.Pairwise (fun a b : Int => a ≤ b ∧ a ≠ b) := List.Pairwise.and so ndL
      exact this.imp fun h => by omega
abbrev s_law_words : Stmt := topS 34
theorem sc_law_words : FnScope ["_law_generator_here", "_law_width", "_law_many", "_law_turn"] ["_law_generator_here", "_law_width", "_law_many"] (defScope s_law_words) := ⟨rfl, rfl, rfl, by decide +kernel, rfl, by decide +kernel, by decide +kernel⟩
theorem ok_law_words {f : Addr} {fd : FuncData} (F : Df K "_law_words" "_law_words" s_law_words [] f fd) (T : TN mg)  (F_law_random : Fo P w K mg base "_law_random" 2 ["_law_generator_here", "_law_bound"] cRandom.sp) (F_law_power : Fo P w K mg base "_law_power" 1 ["_law_number", "_law_times"] cPower.sp) :
    FnOk P w K mg base CX0 3 f fd ["_law_generator_here", "_law_width", "_law_many"] cLWords.sp := by
  refine con_go F sc_law_words cLWords (fun _ => rfl) fun cdv A outer s H E i G z0 B0 hr hp at0 hz => ⟨_, (pss_one (ps_ret (pe_lc (own := [("_law_turn", 3)]) rfl sc_law_words.nd (pi_range1 (by rfl) T.b_range (pa_cons (pv 2) pa_nil)) (blkOk_by (own := [("_law_turn", 3)]) (N := ["_law_generator_here", "_law_width", "_law_many", "_law_turn"]) (sc := defScope s_law_words) (by decide +kernel)) (fun _ _ _ _ _ => (pg_name (i := 3) sc_law_words.nd rfl (Or.inl rfl))) (fun _ _ _ _ _ => pts_nil) (fun _ _ _ _ _ => (pe_fo F_law_random (hr.mono (by decide)) (by rfl) (pa_cons (pv 0) (pa_cons (pe_fo F_law_power (hr.mono (by decide)) (by rfl) (pa_cons pe_int (pa_cons (pv 1) pa_nil))) pa_nil))))))), fun σ Q en q => ?_⟩
  have n0 := Nx.refl at0
  obtain ⟨g, wd, many⟩ := i
  obtain ⟨eG, hw, hm1, hm2⟩ := hp
  subst eG
  have hw : 1 ≤ wd ∧ wd ≤ 64 := hw
  have hm1 : 0 ≤ many := hm1
  have hm2 : many ≤ 100 := hm2
  have hz1 : z0 + 40000 ≤ 2 ^ 50 := hz
  obtain ⟨tp, tp2⟩ := two_pow wd (by omega) (by omega)
  refine q_ret at0 n0 en (ty_lc (M := 100) (ct := 0) (cb := 300) (T := fun _ b => b = true) (A := fun _ n => 0 ≤ n ∧ n < 2 ^ wd.toNat) (ti_rng1 (ta_cons (ty_var (x := many) rfl) ta_nil) ⟨by omega, by omega⟩) (fun m e => by omega) (by decide) (by simp) (fun m e i hi => tt_yes) fun m e i hi _ =>
    y_random (ty_var rfl) (y_power ty_i (ty_var (x := wd) rfl) ⟨by omega, by omega, by decide⟩) (small_b tp tp2)) (by omega) fun ys v z' B' H' hy n h => q ys v z' B' H' ?_ (n.le (by show _ ≤ 40000; omega)) h
  obtain ⟨m, em, sel⟩ := hy
  exact ⟨(sel_len (fun _ _ e => e) sel).trans em, sel_all (P := fun x => 0 ≤ x ∧ x < 2 ^ wd.toNat) (fun _ _ e => e) sel⟩
abbrev s_law_is_whole : Stmt := topS 35
theorem sc_law_is_whole : FnScope ["_law_value"] ["_law_value"] (defScope s_law_is_whole) := ⟨rfl, rfl, rfl, by decide +kernel, rfl, by decide +kernel, by decide +kernel⟩
theorem ok_law_is_whole {f : Addr} {fd : FuncData} (F : Df K "_law_is_whole" "_law_is_whole" s_law_is_whole [] f fd) (T : TN mg)   :
    FnOk P w K mg base CX0 1 f fd ["_law_value"] cWhole.sp := by
  refine con_go F sc_law_is_whole cWhole (fun _ => rfl) fun cdv A outer s H E i G z0 B0 hr hp at0 hz => ⟨_, (pss_one (ps_ret (pe_and (pe_callB (r := rIsi K) call_isi (by rfl) T.b_isinstance (by decide +kernel) (pa_cons (pv 0) (pa_cons (pe_bltn (v := .ty "int") (by rfl) T.b_int (by decide +kernel) rfl) pa_nil))) (pe_one (pe_not (pe_callB (r := rIsi K) call_isi (by rfl) T.b_isinstance (by decide +kernel) (pa_cons (pv 0) (pa_cons (pe_bltn (v := .ty "bool") (by rfl) T.b_bool (by decide +kernel) rfl) pa_nil)))))))), fun σ Q en q => ?_⟩
  have n0 := Nx.refl at0
  exact q_ret at0 n0 en ((ty_andV (ty_isi .int (ty_var rfl)) fun _ => ty_notV (ty_isi .bool (ty_var rfl))).to (Dat.whole_eq i)) hz q
abbrev s_law_is_word : Stmt := topS 36
theorem sc_law_is_word : FnScope ["_law_width", "_law_value"] ["_law_width", "_law_value"] (defScope s_law_is_word) := ⟨rfl, rfl, rfl, by decide +kernel, rfl, by decide +kernel, by decide +kernel⟩
theorem ok_law_is_word {f : Addr} {fd : FuncData} (F : Df K "_law_is_word" "_law_is_word" s_law_is_word [] f fd) (T : TN mg)  (F_law_is_whole : Fo P w K mg base "_law_is_whole" 1 ["_law_value"] cWhole.sp) (F_law_power : Fo P w K mg base "_law_power" 1 ["_law_number", "_law_times"] cPower.sp) :
    FnOk P w K mg base CX0 2 f fd ["_law_width", "_law_value"] cFitsWord.sp := by
  refine con_go F sc_law_is_word cFitsWord (fun _ => rfl) fun cdv A outer s H E i G z0 B0 hr hp at0 hz => ⟨_, (pss_one (ps_ret (pe_and (pe_fo F_law_is_whole (hr.mono (by decide)) (by rfl) (pa_cons (pv 1) pa_nil)) (pe_one (pe_chain op_le op_lt pe_int (pv 1) (pe_fo F_law_power (hr.mono (by decide)) (by rfl) (pa_cons pe_int (pa_cons (pv 0) pa_nil)))))))), fun σ Q en q => ?_⟩
  have n0 := Nx.refl at0
  obtain ⟨wd, d⟩ := i
  have hw : 1 ≤ wd ∧ wd ≤ 64 := hp
  exact q_ret at0 n0 en ((ty_andV (c2 := 0) (y_whole (ty_var rfl)) fun h => ty_chain ty_i ((ty_var (x := d) rfl).intOf h) (y_power ty_i (ty_var (x := wd) rfl) ⟨by omega, by omega, by decide⟩)).to (word_lt wd d)) hz q
abbrev s_law_known : Stmt := topS 37
theorem sc_law_known : FnScope ["_law_generator_here", "_law_width", "_law_places_here", "_law_kept", "_law_place"] ["_law_generator_here", "_law_width", "_law_places_here"] (defScope s_law_known) := ⟨rfl, rfl, rfl, by decide +kernel, rfl, by decide +kernel, by decide +kernel⟩
theorem ok_law_known {f : Addr} {fd : FuncData} (F : Df K "_law_known" "_law_known" s_law_known [] f fd) (T : TN mg)  (F_law_random : Fo P w K mg base "_law_random" 2 ["_law_generator_here", "_law_bound"] cRandom.sp) (F_law_power : Fo P w K mg base "_law_power" 1 ["_law_number", "_law_times"] cPower.sp) :
    FnOk P w K mg base CX0 3 f fd ["_law_generator_here", "_law_width", "_law_places_here"] cLKnown.sp := by
  refine con_go F sc_law_known cLKnown (fun _ => rfl) fun cdv A outer s H E i G z0 B0 hr hp at0 hz => ⟨_, (pss_cons (ps_setLc (i := 3) (own := [("_law_place", 4)]) rfl sc_law_known.nd rfl rfl (sw_true rfl rfl rfl (by decide +kernel)) (pi_list (pv 2)) (blkOk_by (own := [("_law_place", 4)]) (N := ["_law_generator_here", "_law_width", "_law_places_here", "_law_kept", "_law_place"]) (sc := defScope s_law_known) (by decide +kernel)) (fun _ _ _ _ _ => (pg_name (i := 4) sc_law_known.nd rfl (Or.inl rfl))) (fun _ _ _ _ _ => (pts_one (pt_cmpR op_eq (pe_fo F_law_random (hr.mono (by decide)) (by rfl) (pa_cons (pv 0) (pa_cons pe_int pa_nil))) pe_int (nomark _)))) (fun _ _ _ _ _ => (pv 4)))
     (pss_one (ps_ret (pe_lc (own := [("_law_place", 4)]) rfl sc_law_known.nd (pi_list (pv 3)) (blkOk_by (own := [("_law_place", 4)]) (N := ["_law_generator_here", "_law_width", "_law_places_here", "_law_kept", "_law_place"]) (sc := defScope s_law_known) (by decide +kernel)) (fun _ _ _ _ _ => (pg_name (i := 4) sc_law_known.nd rfl (Or.inl rfl))) (fun _ _ _ _ _ => pts_nil) (fun _ _ _ _ _ => (pe_tup (pa_cons (pv 4) (pa_cons (pe_fo F_law_random (hr.mono (by decide)) (by rfl) (pa_cons (pv 0) (pa_cons (pe_fo F_law_power (hr.mono (by decide)) (by rfl) (pa_cons pe_int (pa_cons (pv 1) pa_nil))) pa_nil))) pa_nil)))))))), fun σ Q en q => ?_⟩
  have n0 := Nx.refl at0
  obtain ⟨g, wd, ps⟩ := i
  obtain ⟨eG, hw, hm1, hm2⟩ := hp
  subst eG
  have hw : 1 ≤ wd ∧ wd ≤ 64 := hw
  have hm1 : ps.length ≤ 100 := hm1
  have hm2 : ∀ x ∈ ps, 0 ≤ x ∧ x < 2 ^ wd.toNat := hm2
  have hz1 : z0 + 80000 ≤ 2 ^ 50 := hz
  obtain ⟨tp, tp2⟩ := two_pow wd (by omega) (by omega)
  refine q_asgS at0 n0 en (i := 3) (ty_lc (M := 100) (ct := 300) (cb := 0) (T := fun _ _ => True) (A := fun i x => ps[i]? = some x) (ti_list (ty_var (x := ps) rfl)) (fun m e => by omega) (by decide) (by simp) (fun m e i hi => ?_) fun m e i hi _ => ?_) (by omega) fun kept z' B' H' σ' hk s' n en => ?_
  · exact (tt_test (ty_eqIN (y_random (ty_var rfl) ty_i (small_b (by decide) (by decide))) ty_i)).imp fun _ _ => trivial
  · subst e
    have e := List.getElem?_eq_getElem hi
    rw [itm_eq e]
    exact (ty_var (x := ps[i]) rfl).imp fun y hy => by rw [hy]; exact e
  obtain ⟨m, em, sel⟩ := hk
  have lk : kept.length ≤ 100 := by have := sel.len; omega
  have bk : ∀ x ∈ kept, 0 ≤ x ∧ x < 2 ^ wd.toNat := sel_all (P := fun x => 0 ≤ x ∧ x < 2 ^ wd.toNat) (fun i y e => hm2 y (List.mem_of_getElem? e)) sel
  refine q_ret at0 n en (ty_lc (M := 100) (ct := 0) (cb := 300) (T := fun _ b => b = true) (A := fun _ (x : Int × Int) => (0 ≤ x.1 ∧ x.1 < 2 ^ wd.toNat) ∧ (0 ≤ x.2 ∧ x.2 < 2 ^ wd.toNat)) (ti_list (ty_var (x := kept) rfl)) (fun m e => by omega) (by decide) (by simp) (fun m e i hi => tt_yes) fun m e i hi _ => ?_) (by omega) fun ys v z' B' H' hy n h => q ys v z' B' H' ?_ (n.le (by show _ ≤ 80000; omega)) h
  · subst e
    have e := List.getElem?_eq_getElem hi
    rw [itm_eq e]
    exact (ty_tup2N (ty_var (x := kept[i]) rfl) (y_random (ty_var rfl) (y_power ty_i (ty_var (x := wd) rfl) ⟨by omega, by omega, by decide⟩) (small_b tp tp2))).imp fun x hx => ⟨by rw [hx.1]; exact bk _ (List.getElem_mem hi), hx.2⟩
  · obtain ⟨m, em, sel⟩ := hy
    exact ⟨by show ys.length ≤ 100; have := sel_len (fun _ _ e => e) sel; omega, sel_all (P := fun x : Int × Int => (0 ≤ x.1 ∧ x.1 < 2 ^ wd.toNat) ∧ (0 ≤ x.2 ∧ x.2 < 2 ^ wd.toNat)) (fun _ _ e => e) sel⟩
abbrev s_law_are_places : Stmt := topS 38
theorem sc_law_are_places : FnScope ["_law_width", "_law_value", "_law_at", "_law_item"] ["_law_width", "_law_value"] (defScope s_law_are_places) := ⟨rfl, rfl, rfl, by decide +kernel, rfl, by decide +kernel, by decide +kernel⟩
theorem ok_law_are_places {f : Addr} {fd : FuncData} (F : Df K "_law_are_places" "_law_are_places" s_law_are_places [] f fd) (T : TN mg)  (F_law_is_word : Fo P w K mg base "_law_is_word" 2 ["_law_width", "_law_value"] cFitsWord.sp) :
    FnOk P w K mg base CX0 3 f fd ["_law_width", "_law_value"] cArePlaces.sp := by
  refine con_go F sc_law_are_places cArePlaces (fun _ => rfl) fun cdv A outer s H E i G z0 B0 hr hp at0 hz => ⟨_, (pss_cons (ps_if (PW.pt (pw_or (pt_not (pt_val (pe_callB (r := rIsi K) call_isi (by rfl) T.b_isinstance (by decide +kernel) (pa_cons (pv 1) (pa_cons (pe_bltn (v := .ty "list") (by rfl) T.b_list (by decide +kernel) rfl) pa_nil))))) (pw_or (pt_cmpR (r := rEqNil K) (op_eqNil hr.units0) (pv 1) (pe_lst pa_nil) (nomark _)) (pw_or1 (pt_cmpR (r := rNeNil K) (op_neNil hr.units0) (pe_lc (own := [("_law_item", 3)]) rfl sc_law_are_places.nd (pi_list (pv 1)) (blkOk_by (own := [("_law_item", 3)]) (N := ["_law_width", "_law_value", "_law_at", "_law_item"]) (sc := defScope s_law_are_places) (by decide +kernel)) (fun _ _ _ _ _ => (pg_name (i := 3) sc_law_are_places.nd rfl (Or.inl rfl))) (fun _ _ _ _ _ => (pts_one (pt_not (pt_val (pe_fo F_law_is_word (hr.mono (by decide)) (by rfl) (pa_cons (pv 0) (pa_cons (pv 3) pa_nil))))))) (fun _ _ _ _ _ => (pv 3))) (pe_lst pa_nil) (nomark _)))))) (pss_one (ps_ret pe_bl)) pss_nil)
     (pss_one (ps_ret (pe_cmpR (r := rEqNil K) (op_eqNil hr.units0) (pe_lc (own := [("_law_at", 2)]) rfl sc_law_are_places.nd (pi_range2 (by rfl) T.b_range (pa_cons pe_int (pa_cons (pe_callB (r := rLenS K) call_len_seq (by rfl) T.b_len (by decide +kernel) (pa_cons (pv 1) pa_nil)) pa_nil))) (blkOk_by (own := [("_law_at", 2)]) (N := ["_law_width", "_law_value", "_law_at", "_law_item"]) (sc := defScope s_law_are_places) (by decide +kernel)) (fun _ _ _ _ _ => (pg_name (i := 2) sc_law_are_places.nd rfl (Or.inl rfl))) (fun _ _ _ _ _ => (pts_one (pt_cmpR op_ge (pe_ix (r := rIxL K) ix_list (pv 1) (pe_op op_sub (pv 2) pe_int) (fun _ _ => rfl)) (pe_ix (r := rIxL K) ix_list (pv 1) (pv 2) (fun _ _ => rfl)) (nomark _)))) (fun _ _ _ _ _ => (pv 2))) (pe_lst pa_nil) (nomark _))))), fun σ Q en q => ?_⟩
  have n0 := Nx.refl at0
  obtain ⟨wd, d⟩ := i
  obtain ⟨hw, sm⟩ := hp
  by_cases hl : d.isT .list = true
  · obtain ⟨ds, rfl⟩ : ∃ ds, d = .lst ds := by cases d <;> first | exact ⟨_, rfl⟩ | cases hl
    have sm' : ds.length ≤ 30000 := sm
    refine AP.q_when at0 n0 en (tt_or (tt_notD (tt_B (ty_isi .list (ty_var rfl)))) fun _ => tt_or (tt_test (ty_eqNil ((ty_var (x := Dat.lst ds) rfl).lstDat))) fun _ => tt_test (ty_neNil (c := 0) (ty_lcL (p := fun x => !x.word wd) (f := fun x => x) ((ty_var (x := Dat.lst ds) rfl).lstDat) (by omega) (by simp) (fun x hx => tt_notD (tt_B (y_fitsWord (ty_var (x := wd) rfl) (ty_var (x := x) rfl) hw))) fun x hx _ => ty_var (x := x) rfl))) hz (fun hb z' B' H' _ n en => ?_) (fun hb z' B' H' _ n en => ?_)
    · refine q_ret at0 n en ty_b hz fun x v z' B' H' e n h => q x v z' B' H' ?_ n h
      rw [e]
      have hb' : (!true || (ds.isEmpty || !((ds.filter fun x => !x.word wd).map fun x => x).isEmpty)) = true := hb
      show false = (ds.all (Dat.word wd) && (decide (0 < ds.length) && climbs (ds.map Dat.toI)))
      by_cases h0 : ds = []
      · subst h0
        rfl
      · have h1 : ds.isEmpty = false := by cases ds <;> first | rfl | exact absurd rfl h0
        rw [h1, List.map_id'] at hb'
        have h2 : ds.all (Dat.word wd) = false := by
          cases e : ds.all (Dat.word wd) with
          | false => rfl
          | true =>
            have : ds.filter (fun x => !x.word wd) = [] := List.filter_eq_nil_iff.mpr fun x hx => by rw [List.all_eq_true.mp e x hx]; decide
            rw [this] at hb'
            cases hb'
        rw [h2, Bool.false_and]
    · have hb' : (!true || (ds.isEmpty || !((ds.filter fun x => !x.word wd).map fun x => x).isEmpty)) = false := hb
      rw [List.map_id'] at hb'
      have h0 : ds.isEmpty = false := by cases e : ds.isEmpty with
        | false => rfl
        | true => rw [e] at hb'; cases hb'
      have h1 : (ds.filter fun x => !x.word wd) = [] := by
        rw [h0] at hb'
        cases e : (ds.filter fun x => !x.word wd) with
        | nil => rfl
        | cons _ _ => rw [e] at hb'; cases hb'
      have all : ds.all (Dat.word wd) = true := List.all_eq_true.mpr fun x hx => by
        have := List.filter_eq_nil_iff.mp h1 x hx
        simpa using this
      have hne : 0 < ds.length := by cases ds with
        | nil => cases h0
        | cons _ _ => exact Nat.succ_pos _
      have lenE : ((ds.map Dat.toI).length : Int) = (ds.length : Int) := by rw [List.length_map]
      refine q_ret at0 n en ((ty_eqNil (c := 0) (ty_lcR2 (lo := 1) (n := (ds.length : Int)) (p := fun x : Int => decide ((ds.map Dat.toI).getD x.toNat 0 ≤ (ds.map Dat.toI).getD (x - 1).toNat 0)) (f := fun x : Int => x) (ta_cons ty_i (ta_cons (ty_len ((ty_var (x := Dat.lst ds) rfl).lstDat)) ta_nil)) (by decide) ⟨by omega, by omega⟩ (by omega) (by simp) (fun x h1 h2 => ?_) fun x _ _ _ => ty_var (x := x) rfl)).to ?_) hz q
      · exact tt_test (ty_B0 (ty_ix ((ty_var (x := Dat.lst ds) rfl).intsOf (words_whole all)) (ty_I0 (ty_var (x := x) rfl) ty_i) (atI_in (by omega) (by omega))) (ty_ix ((ty_var (x := Dat.lst ds) rfl).intsOf (words_whole all)) (ty_var (x := x) rfl) (atI_in (by omega) (by omega))))
      · have := notclimb_eq (ds.map Dat.toI)
        rw [lenE] at this
        rw [this]
        show climbs (ds.map Dat.toI) = (ds.all (Dat.word wd) && (decide (0 < ds.length) && climbs (ds.map Dat.toI)))
        rw [all, decide_eq_true hne] <;> rfl
  · refine AP.q_when at0 n0 en (tt_or (c2 := 0) (b := false) (tt_notD (tt_B (ty_isi .list (ty_var (x := d) rfl)))) fun z => absurd (by simpa using z) hl) hz (fun hb z' B' H' _ n en => ?_) (fun hb => absurd hb (by simp at hl; rw [hl]; decide))
    refine q_ret at0 n en ty_b hz fun x v z' B' H' e n h => q x v z' B' H' ?_ n h
    rw [e]
    cases d <;> first | rfl | exact absurd rfl hl
end
end K01

set_option maxHeartbeats 4000000
namespace K01
open PySem PySem.Spec PyProof.Rows L2 AP Evl


section
variable {P : Program} {w : World} {K : PySem.W.Frag} {mg : Str → Option Value} {base : Heap}
abbrev s_law_are_known : Stmt := topS 39
theorem sc_law_are_known : FnScope ["_law_width", "_law_places_here", "_law_value", "_law_item", "_law_at"] ["_law_width", "_law_places_here", "_law_value"] (defScope s_law_are_known) := ⟨rfl, rfl, rfl, by decide +kernel, rfl, by decide +kernel, by decide +kernel⟩
theorem ok_law_are_known {f : Addr} {fd : FuncData} (F : Df K "_law_are_known" "_law_are_known" s_law_are_known [] f fd) (T : TN mg)  (F_law_is_whole : Fo P w K mg base "_law_is_whole" 1 ["_law_value"] cWhole.sp) (F_law_is_word : Fo P w K mg base "_law_is_word" 2 ["_law_width", "_law_value"] cFitsWord.sp) :
    FnOk P w K mg base CX0 3 f fd ["_law_width", "_law_places_here", "_law_value"] cKnown.sp := by
  refine con_go F sc_law_are_known cKnown (fun _ => rfl) fun cdv A outer s H E i G z0 B0 hr hp at0 hz => ⟨_, (pss_cons (ps_if (pt_not (pt_val (pe_callB (r := rIsi K) call_isi (by rfl) T.b_isinstance (by decide +kernel) (pa_cons (pv 2) (pa_cons (pe_bltn (v := .ty "list") (by rfl) T.b_list (by decide +kernel) rfl) pa_nil))))) (pss_one (ps_ret pe_bl)) pss_nil)
     (pss_cons (ps_for PassesOwn.never rfl (pi_list (pv 2)) (pg_name (i := 3) sc_law_are_known.nd rfl (.inl rfl))
      (pss_cons (ps_if (PW.pt (pw_or (pt_not (pt_val (pe_callB (r := rIsi K) call_isi (by rfl) T.b_isinstance (by decide +kernel) (pa_cons (pv 3) (pa_cons (pe_bltn (v := .ty "tuple") (by rfl) T.b_tuple (by decide +kernel) rfl) pa_nil))))) (pw_or (pt_cmpR op_ne (pe_callB (r := rLenS K) call_len_seq (by rfl) T.b_len (by decide +kernel) (pa_cons (pv 3) pa_nil)) pe_int (nomark _)) (pw_or1 (pt_not (pt_val (pe_fo F_law_is_whole (hr.mono (by decide)) (by rfl) (pa_cons (pe_ix (r := rIxT K) ix_tup (pv 3) pe_int (fun _ _ => rfl)) pa_nil)))))))) (pss_one (ps_ret pe_bl)) pss_nil)
       (pss_one (ps_if (PW.pt (pw_or (pt_cmpR (r := rIn K true) op_notIn_seq (pe_ix (r := rIxT K) ix_tup (pv 3) pe_int (fun _ _ => rfl)) (pv 1) (by rfl)) (pw_or1 (pt_not (pt_val (pe_fo F_law_is_word (hr.mono (by decide)) (by rfl) (pa_cons (pv 0) (pa_cons (pe_ix (r := rIxT K) ix_tup (pv 3) pe_int (fun _ _ => rfl)) pa_nil)))))))) (pss_one (ps_ret pe_bl)) pss_nil))))
     (pss_one (ps_ret (pe_cmpR (r := rEqNil K) (op_eqNil hr.units0) (pe_lc (own := [("_law_at", 4)]) rfl sc_law_are_known.nd (pi_range2 (by rfl) T.b_range (pa_cons pe_int (pa_cons (pe_callB (r := rLenS K) call_len_seq (by rfl) T.b_len (by decide +kernel) (pa_cons (pv 2) pa_nil)) pa_nil))) (blkOk_by (own := [("_law_at", 4)]) (N := ["_law_width", "_law_places_here", "_law_value", "_law_item", "_law_at"]) (sc := defScope s_law_are_known) (by decide +kernel)) (fun _ _ _ _ _ => (pg_name (i := 4) sc_law_are_known.nd rfl (Or.inl rfl))) (fun _ _ _ _ _ => (pts_one (pt_cmpR op_ge (pe_ix (r := rIxT K) ix_tup (pe_ix (r := rIxL K) ix_list (pv 2) (pe_op op_sub (pv 4) pe_int) (fun _ _ => rfl)) pe_int (fun _ _ => rfl)) (pe_ix (r := rIxT K) ix_tup (pe_ix (r := rIxL K) ix_list (pv 2) (pv 4) (fun _ _ => rfl)) pe_int (fun _ _ => rfl)) (nomark _)))) (fun _ _ _ _ _ => (pv 4))) (pe_lst pa_nil) (nomark _)))))), fun σ Q en q => ?_⟩
  have n0 := Nx.refl at0
  obtain ⟨wd, ps, d⟩ := i
  obtain ⟨hw, sm⟩ := hp
  have hz1 : z0 + 0 ≤ 2 ^ 50 := hz
  by_cases hl : d.isT .list = true
  · obtain ⟨ds, rfl⟩ : ∃ ds, d = .lst ds := by cases d <;> first | exact ⟨_, rfl⟩ | cases hl
    have sm' : ds.length ≤ 30000 := sm
    refine AP.q_when at0 n0 en ((tt_notD (tt_B (ty_isi .list (ty_var (x := Dat.lst ds) rfl)))).to (show (!true) = false from rfl)) hz (fun hb => Bool.noConfusion hb) (fun _ z' B' H' _ n en => ?_)
    refine q_forS at0 n en (cb := 0) (ti_list ((ty_var (x := Dat.lst ds) rfl).lstDat)) hz
      (fun i Γ _ _ => ∃ (o3 o4 : Option VP), Γ = [some (Py.is wd), some (Py.is ps), some (Py.is (Dat.lst ds)), o3, o4] ∧ ∀ x ∈ ds.take i, knownOneB wd ps x = true)
      (fun _ _ _ _ _ => ⟨none, none, rfl, by simp⟩) (fun _ _ _ _ _ h _ => h) (fun m em Bs i Γ' z' B' H' σ' hi inv eb n en => ?_) fun m em Γ' z' B' H' σ' inv n en => ?_
    · subst em
      obtain ⟨o3, o4, rfl, inv⟩ := inv
      have e := List.getElem?_eq_getElem hi
      have mem : ds[i] ∈ ds := List.getElem_mem hi
      rw [itm_eq e] at en
      generalize hx : ds[i] = x at e mem en
      have grow : knownOneB wd ps x = true → ∀ y ∈ ds.take (i + 1), knownOneB wd ps y = true := fun k y hy => by
        rw [List.take_add_one, e] at hy
        rcases List.mem_append.mp hy with hy | hy
        · exact inv y hy
        · rw [List.mem_singleton.mp hy]
          exact k
      have ret : knownOneB wd ps x = false → ∀ {c : Nat} {z' : Int} {B' H' : Hp}, Nx G c z0 B0 H z' B' H' → c = 0 → ∀ v, Py.is false v B' → Q v H' := fun k c z' B' H' n ec v hv => q false v z' B' H' (known_not mem k).symm (n.le (by omega)) hv
      have hzi : z0 + ((0 + 0 + 0 + i * 0 : Nat) : Int) ≤ 2 ^ 50 := by simpa using hz1
      by_cases hx2 : ∃ a b, x = .tup [a, b]
      · obtain ⟨a, b, rfl⟩ := hx2
        refine AP.q_when at0 n en ((tt_or (c2 := 0) (tt_notD (tt_B (ty_isi .tuple (ty_var (x := Dat.tup [a, b]) rfl)))) fun _ => tt_or (tt_test (ty_neI (ty_lenT (ty_var (x := Dat.tup [a, b]) rfl)) ty_i)) fun _ => tt_notD (tt_B (y_whole (ty_ixT (ds := [a, b]) (ty_var rfl) ty_i rfl)))).to (show (!true || (!decide (((2 : Nat) : Int) = 2) || !a.whole)) = !a.whole by simp)) (by simpa using hz1) (fun hb z' B' H' _ n en => ?_) (fun hb z' B' H' s1 n en => ?_)
        · have ka : knownOneB wd ps (.tup [a, b]) = false := by
            show (a.whole && _) = false
            have : a.whole = false := by simpa using hb
            rw [this, Bool.false_and]
          exact q_ret at0 n en ty_b (by simpa using hz1) fun x v z' B' H' e n h => ret ka n (by simp) v (by subst e; exact h)
        · have wa : a.whole = true := by simpa using hb
          refine AP.q_if at0 n en ((tt_or (c2 := 0) (tt_test (ty_notIn ((ty_ixT (ds := [a, b]) (ty_var rfl) ty_i rfl).intOf wa) (ty_var (x := ps) rfl))) fun _ => tt_notD (tt_B (y_fitsWord (ty_var (x := wd) rfl) (ty_ixT (ds := [a, b]) (ty_var rfl) ty_i rfl) hw)))) (by simpa using hz1) (fun hb z' B' H' _ n en => ?_) (fun hb z' B' H' s2 n en => ?_)
          · have ka : knownOneB wd ps (.tup [a, b]) = false := by
              show (a.whole && (decide (a.toI ∈ ps) && b.word wd)) = false
              have hb : (!decide (a.toI ∈ ps) || !b.word wd) = true := hb.symm
              cases e1 : decide (a.toI ∈ ps) with
              | false => rw [Bool.false_and, Bool.and_false]
              | true =>
                rw [e1] at hb
                have : b.word wd = false := by simpa using hb
                rw [this, Bool.and_false, Bool.and_false]
            exact q_ret at0 n en ty_b (by simpa using hz1) fun x v z' B' H' e n h => ret ka n (by simp) v (by subst e; exact h)
          · have ka : knownOneB wd ps (.tup [a, b]) = true := by
              show (a.whole && (decide (a.toI ∈ ps) && b.word wd)) = true
              have hb : (!decide (a.toI ∈ ps) || !b.word wd) = false := hb.symm
              cases e1 : decide (a.toI ∈ ps) with
              | false => rw [e1] at hb; cases hb
              | true =>
                rw [e1] at hb
                have : b.word wd = true := by simpa using hb
                rw [this, wa] <;> rfl
            exact ⟨_, z', B', ⟨_, _, rfl, grow ka⟩, (eb.trans s1.up).trans s2.up, n.le (by simp), en⟩
      · have ka : knownOneB wd ps x = false := by
          cases x with
          | tup es =>
            match es, hx2 with
            | [], _ => rfl
            | [_], _ => rfl
            | [a, b], t => exact absurd ⟨a, b, rfl⟩ t
            | _ :: _ :: _ :: _, _ => rfl
          | _ => rfl
        have test : ∃ b, TyT G 0 (tOr (tNot (tB (tCB (rIsi K) (tCons (tVar 3) (tCons (tC (.ty "tuple")) tNil))))) (tOr (tTest (tOp rNe (tCB (rLenS K) (tCons (tVar 3) tNil)) (tC (.int 2)))) (tNot (tB (tCall cWhole.sp [] (fun _ _ _ => False) (tCons (tOp (rIxT K) (tVar 3) (tC (.int 0))) tNil))))))
            ([some (Py.is wd), some (Py.is ps), some (Py.is (Dat.lst ds)), some (Py.is x), o4]) (· = b) ∧ b = true := by
          by_cases ht : x.isT .tuple = true
          · obtain ⟨es, rfl⟩ : ∃ es, x = .tup es := by cases x <;> first | exact ⟨_, rfl⟩ | cases ht
            have l2 : ¬ es.length = 2 := fun l => by
              match es, l with
              | [a, b], _ => exact hx2 ⟨a, b, rfl⟩
            refine ⟨_, tt_or (c1 := 0) (c2 := 0) (tt_notD (tt_B (ty_isi .tuple (ty_var (x := Dat.tup es) rfl)))) fun _ => tt_or (c1 := 0) (c2 := 0) (b := true) (tt_test (ty_neI (ty_lenT (ty_var (x := Dat.tup es) rfl)) ty_i)) fun z => ?_, ?_⟩
            · have : decide ((es.length : Int) = 2) = true := by simpa using z
              exact absurd (by have := of_decide_eq_true this; omega) l2
            · rw [decide_eq_false (by omega)]
              rfl
          · refine ⟨_, tt_or (c1 := 0) (c2 := 0) (b := true) (tt_notD (tt_B (ty_isi .tuple (ty_var (x := x) rfl)))) fun z => absurd (by simpa using z) ht, ?_⟩
            rw [Bool.or_true]
        obtain ⟨b, tb, eb'⟩ := test
        subst eb'
        refine AP.q_when at0 n en (c := 0) tb (by simpa using hz1) (fun hb z' B' H' _ n en => ?_) (fun hb => Bool.noConfusion hb)
        exact q_ret at0 n en ty_b (by simpa using hz1) fun x v z' B' H' e n h => ret ka n (by simp) v (by subst e; exact h)
    · subst em
      obtain ⟨o3, o4, rfl, inv⟩ := inv
      rw [List.take_length] at inv
      have all : ds.all (knownOneB wd ps) = true := List.all_eq_true.mpr inv
      have one : ∀ k : Nat, k < ds.length → ∃ a b, ds.getD k .non = .tup [a, b] ∧ a.whole = true := fun k hk => by
        have e1 : ds.getD k .non = ds[k] := by rw [List.getD_eq_getElem?_getD, List.getElem?_eq_getElem hk] <;> rfl
        have kk := inv _ (List.getElem_mem hk)
        rw [e1]
        match ds[k], kk with
        | .tup [a, b], kk => exact ⟨a, b, rfl, by unfold knownOneB at kk; simp only [Bool.and_eq_true] at kk; exact kk.1⟩
      have at_d : ∀ i : Int, 0 ≤ i → i < ds.length → atI ds i = some (ds.getD i.toNat .non) := fun i h0 h1 => by
        unfold atI ixN
        rw [if_pos h0, if_pos h1]
        show ds[i.toNat]? = _
        have lt : i.toNat < ds.length := by omega
        rw [List.getElem?_eq_getElem lt, List.getD_eq_getElem?_getD, List.getElem?_eq_getElem lt] <;> rfl
      have nums : ∀ k : Nat, (ds.map fun d => d.fst.toI).getD k 0 = (ds.getD k .non).fst.toI := fun k => by
        rw [List.getD_eq_getElem?_getD, List.getD_eq_getElem?_getD, List.getElem?_map]
        cases ds[k]? <;> rfl
      refine q_ret at0 n en ((ty_eqNil (c := 0) (ty_lcR2 (lo := 1) (n := (ds.length : Int)) (p := fun x : Int => decide ((ds.map fun d => d.fst.toI).getD x.toNat 0 ≤ (ds.map fun d => d.fst.toI).getD (x - 1).toNat 0)) (f := fun x : Int => x) (ta_cons ty_i (ta_cons (ty_len ((ty_var (x := Dat.lst ds) rfl).lstDat)) ta_nil)) (by decide) ⟨by omega, by omega⟩ (by omega) (by simp) (fun x h1 h2 => ?_) fun x _ _ _ => ty_var (x := x) rfl)).to ?_) (by simpa using hz1) fun x v z' B' H' e n h => q x v z' B' H' e (n.le (by simp)) h
      · obtain ⟨a, b, e1, w1⟩ := one (x - 1).toNat (by omega)
        obtain ⟨a', b', e2, w2⟩ := one x.toNat (by omega)
        rw [nums, nums]
        exact tt_test (ty_B0 (ty_fstI (ty_ix ((ty_var (x := Dat.lst ds) rfl).lstDat) (ty_I0 (ty_var (x := x) rfl) ty_i) (at_d _ (by omega) (by omega))) ty_i e1 w1) (ty_fstI (ty_ix ((ty_var (x := Dat.lst ds) rfl).lstDat) (ty_var (x := x) rfl) (at_d _ (by omega) (by omega))) ty_i e2 w2))
      · have := notclimb_eq (ds.map fun d => d.fst.toI)
        rw [List.length_map] at this
        rw [this]
        show climbs (ds.map fun d => d.fst.toI) = (ds.all (knownOneB wd ps) && climbs (ds.map fun d => d.fst.toI))
        rw [all, Bool.true_and]
  · refine AP.q_when at0 n0 en (tt_notD (tt_B (ty_isi .list (ty_var (x := d) rfl)))) hz (fun hb z' B' H' _ n en => ?_) (fun hb => absurd hb (by simp at hl; rw [hl]; decide))
    refine q_ret at0 n en ty_b hz fun x v z' B' H' e n h => q x v z' B' H' ?_ n h
    rw [e]
    cases d <;> first | rfl | exact absurd rfl hl
abbrev s_law_odd : Stmt := topS 40
theorem sc_law_odd : FnScope ["_law_width"] ["_law_width"] (defScope s_law_odd) := ⟨rfl, rfl, rfl, by decide +kernel, rfl, by decide +kernel, by decide +kernel⟩
theorem ok_law_odd {f : Addr} {fd : FuncData} (F : Df K "_law_odd" "_law_odd" s_law_odd [] f fd) (T : TN mg)  (F_law_power : Fo P w K mg base "_law_power" 1 ["_law_number", "_law_times"] cPower.sp) :
    FnOk P w K mg base CX0 2 f fd ["_law_width"] cOdd.sp := by
  refine con_go F sc_law_odd cOdd (fun _ => rfl) fun cdv A outer s H E i G z0 B0 hr hp at0 hz => ⟨_, (pss_one (ps_ret (pe_lst (pa_cons pe_non (pa_cons pe_bl (pa_cons (pe_op op_sub pe_int pe_int) (pa_cons (pe_fo F_law_power (hr.mono (by decide)) (by rfl) (pa_cons pe_int (pa_cons (pv 0) pa_nil))) (pa_cons pe_str (pa_cons (pe_lst (pa_cons pe_int pa_nil)) (pa_cons (pe_tup (pa_cons pe_int pa_nil)) (pa_cons pe_dnewK (pa_cons (pe_op op_powW pe_int pe_int) pa_nil)))))))))))), fun σ Q en q => ?_⟩
  have n0 := Nx.refl at0
  have hw : 1 ≤ i ∧ i ≤ 64 := hp
  refine q_ret at0 n0 en (ty_lit (tl_cons ty_n.datNon (tl_cons ty_b.datBl (tl_cons (ty_I0 (f := fun a b => a - b) ty_i ty_i).datInt (tl_cons (y_power ty_i (ty_var (x := i) rfl) ⟨by omega, by omega, by decide⟩).datInt (tl_cons ty_s.datStr (tl_cons (ty_lit (tl_cons ty_i.datInt tl_nil) (by simp)).datLst (tl_cons (ty_tupD (tl_cons ty_i.datInt tl_nil) (by simp)) (tl_cons ty_dnew (tl_cons (ty_I (f := fun a b => a ^ b.toNat) ty_i ty_i pow_29).datInt tl_nil))))))))) (by simp)) hz q
abbrev s_law_bent : Stmt := topS 41
theorem sc_law_bent : FnScope ["_law_generator_here", "_law_width", "_law_row", "_law_at", "_law_found", "_law_odd_here"] ["_law_generator_here", "_law_width", "_law_row"] (defScope s_law_bent) := ⟨rfl, rfl, rfl, by decide +kernel, rfl, by decide +kernel, by decide +kernel⟩
theorem ok_law_bent {f : Addr} {fd : FuncData} (F : Df K "_law_bent" "_law_bent" s_law_bent [] f fd) (T : TN mg)  (F_law_random : Fo P w K mg base "_law_random" 2 ["_law_generator_here", "_law_bound"] cRandom.sp) (F_law_power : Fo P w K mg base "_law_power" 1 ["_law_number", "_law_times"] cPower.sp) (F_law_odd : Fo P w K mg base "_law_odd" 2 ["_law_width"] cOdd.sp) :
    FnOk P w K mg base CX0 3 f fd ["_law_generator_here", "_law_width", "_law_row"] cBent.sp := by
  refine con_go F sc_law_bent cBent (fun _ => rfl) fun cdv A outer s H E i G z0 B0 hr hp at0 hz => ⟨_, (pss_cons (ps_set (i := 3) sc_law_bent.nd rfl (.inr rfl) (pe_fo F_law_random (hr.mono (by decide)) (by rfl) (pa_cons (pv 0) (pa_cons (pe_op op_add (pe_callB (r := rLenS K) call_len_seq (by rfl) T.b_len (by decide +kernel) (pa_cons (pv 2) pa_nil)) pe_int) pa_nil))))
     (pss_cons (ps_set (i := 4) sc_law_bent.nd rfl (.inl rfl) (pe_op op_cat (pe_lc (own := [("_law_odd_here", 5)]) rfl sc_law_bent.nd (pi_list (pe_fo F_law_odd (hr.mono (by decide)) (by rfl) (pa_cons (pv 1) pa_nil))) (blkOk_by (own := [("_law_odd_here", 5)]) (N := ["_law_generator_here", "_law_width", "_law_row", "_law_at", "_law_found", "_law_odd_here"]) (sc := defScope s_law_bent) (by decide +kernel)) (fun _ _ _ _ _ => (pg_name (i := 5) sc_law_bent.nd rfl (Or.inl rfl))) (fun _ _ _ _ _ => pts_nil) (fun _ _ _ _ _ => (pe_op op_cat (pe_op op_cat (pe_slice (r := rSlL K) sl_list (pv 2) po_none (po_some (pv 3))) (pe_lst (pa_cons (pv 5) pa_nil))) (pe_slice (r := rSlL K) sl_list (pv 2) (po_some (pv 3)) po_none)))) (pe_lst (pa_cons (pe_revS (pv 2) (pe_op op_sub pe_int pe_int)) (pa_cons (pe_op op_cat (pv 2) (pv 2)) (pa_cons (pe_callTy (r := rTupleOf K) call_tuple_of (by rfl) T.b_tuple (by decide +kernel) (pa_cons (pv 2) pa_nil)) pa_nil))))))
     (pss_cons (ps_set (i := 4) sc_law_bent.nd rfl (.inl rfl) (pe_op op_cat (pv 4) (pe_lc (own := [("_law_odd_here", 5)]) rfl sc_law_bent.nd (pi_list (pe_fo F_law_odd (hr.mono (by decide)) (by rfl) (pa_cons (pv 1) pa_nil))) (blkOk_by (own := [("_law_odd_here", 5)]) (N := ["_law_generator_here", "_law_width", "_law_row", "_law_at", "_law_found", "_law_odd_here"]) (sc := defScope s_law_bent) (by decide +kernel)) (fun _ _ _ _ _ => (pg_name (i := 5) sc_law_bent.nd rfl (Or.inl rfl))) (fun _ _ _ _ _ => pts_nil) (fun _ _ _ _ _ => (pe_op op_cat (pe_op op_cat (pe_slice (r := rSlL K) sl_list (pv 2) po_none (po_some (pv 3))) (pe_lst (pa_cons (pv 5) pa_nil))) (pe_slice (r := rSlL K) sl_list (pv 2) (po_some (pe_op op_add (pv 3) pe_int)) po_none))))))
     (pss_one (ps_ret (pe_op op_cat (pv 4) (pe_lst (pa_cons (pe_op op_cat (pe_slice (r := rSlL K) sl_list (pv 2) po_none (po_some (pv 3))) (pe_slice (r := rSlL K) sl_list (pv 2) (po_some (pe_op op_add (pv 3) pe_int)) po_none)) (pa_cons (pe_lst (pa_cons (pv 2) pa_nil)) (pa_cons pe_str (pa_cons (pe_op op_cat (pv 2) (pe_lst (pa_cons (pe_op op_sub (pe_fo F_law_power (hr.mono (by decide)) (by rfl) (pa_cons pe_int (pa_cons (pv 1) pa_nil))) pe_int) pa_nil))) (pa_cons pe_int (pa_cons pe_non (pa_cons (pe_lst pa_nil) (pa_cons pe_dnewK pa_nil))))))))))))))), fun σ Q en q => ?_⟩
  have n0 := Nx.refl at0
  obtain ⟨g, wd, row⟩ := i
  obtain ⟨eG, hw, hr1⟩ := hp
  subst eG
  have hw' : 1 ≤ wd ∧ wd ≤ 64 := hw
  have hr1 : row.length ≤ 100 := hr1
  have hz1 : z0 + 300 ≤ 2 ^ 50 := hz
  have rowD : ∀ {Γ : AP.Ctx} {k : Nat}, Γ[k]? = some (some (Py.is row)) → Ty (some g) 0 (tVar k) Γ (· = row.map Dat.int) := fun e => (ty_var e).datInts
  have lenD : (row.map Dat.int).length = row.length := List.length_map ..
  have cutD : ∀ a b, (cutL (row.map Dat.int) a b).length ≤ 100 := fun a b => Nat.le_trans (cutL_len _ a b) (by omega)
  refine q_asgS at0 n0 en (i := 3) (y_random (ty_var rfl) (ty_I0 (f := fun a b => a + b) (ty_len (ty_var (x := row) rfl)) ty_i) (small_b (by omega) (by omega))) (by omega) fun at1 z' B' H' σ' ha s' n en => ?_
  refine q_asgS at0 n en (i := 4) (ty_cat (ty_lcM (f := fun d => Dat.lst (cutL (row.map Dat.int) none (some at1) ++ [d] ++ cutL (row.map Dat.int) (some at1) none)) (y_odd (ty_var (x := wd) rfl) hw) (show 9 ≤ 40000 by decide) (by simp) fun x hx => (ty_cat (ty_cat (ty_sl (rowD rfl) to_none (to_some (ty_var (x := at1) rfl))) (ty_lit (tl_cons (ty_var (x := x) rfl) tl_nil) (by simp)) (by have := cutD none (some at1); simp; omega)) (ty_sl (rowD rfl) (to_some (ty_var (x := at1) rfl)) to_none) (by have := cutD none (some at1); have := cutD (some at1) none; simp; omega)).datLst)
    (ty_lit (tl_cons (ty_revS (rowD rfl) (ty_I0 (f := fun a b => a - b) ty_i ty_i)).datLst (tl_cons (ty_cat (rowD rfl) (rowD rfl) (by omega)).datLst (tl_cons (ty_tupleOf (rowD rfl)) tl_nil))) (by simp)) (by simp [oddL])) (by omega) fun f1 z' B' H' σ' e1 s' n en => ?_
  have sm1 : ∀ x : Dat, (Dat.lst (cutL (row.map Dat.int) none (some at1) ++ [x] ++ cutL (row.map Dat.int) (some at1) none)).small := fun x => by
    show List.length _ ≤ 30000
    have := cutD none (some at1); have := cutD (some at1) none; simp; omega
  have sm2 : ∀ x : Dat, (Dat.lst (cutL (row.map Dat.int) none (some at1) ++ [x] ++ cutL (row.map Dat.int) (some (at1 + 1)) none)).small := fun x => by
    show List.length _ ≤ 30000
    have := cutD none (some at1); have := cutD (some (at1 + 1)) none; simp; omega
  have k1 : f1.length ≤ 12 ∧ ∀ d ∈ f1, d.small := by
    rw [e1]
    refine ⟨by simp [oddL], sm_app (fun d hd => ?_) (sm_cons (by show List.length _ ≤ 30000; simp; omega) (sm_cons (by show List.length _ ≤ 30000; simp; omega) (sm_cons trivial sm_nil)))⟩
    obtain ⟨x, _, rfl⟩ := List.mem_map.mp hd
    exact sm1 x
  clear e1
  refine q_asgS at0 n en (i := 4) (ty_cat (ty_var (x := f1) rfl) (ty_lcM (f := fun d => Dat.lst (cutL (row.map Dat.int) none (some at1) ++ [d] ++ cutL (row.map Dat.int) (some (at1 + 1)) none)) (y_odd (ty_var (x := wd) rfl) hw) (show 9 ≤ 40000 by decide) (by simp) fun x hx => (ty_cat (ty_cat (ty_sl (rowD rfl) to_none (to_some (ty_var (x := at1) rfl))) (ty_lit (tl_cons (ty_var (x := x) rfl) tl_nil) (by simp)) (by have := cutD none (some at1); simp; omega)) (ty_sl (rowD rfl) (to_some (ty_I0 (f := fun a b => a + b) (ty_var (x := at1) rfl) ty_i)) to_none) (by have := cutD none (some at1); have := cutD (some (at1 + 1)) none; simp; omega)).datLst) (by have := k1.1; simp [oddL]; omega)) (by omega) fun f2 z' B' H' σ' e2 s' n en => ?_
  have k2 : f2.length ≤ 21 ∧ ∀ d ∈ f2, d.small := by
    rw [e2]
    refine ⟨by have := k1.1; simp [oddL]; omega, sm_app k1.2 fun d hd => ?_⟩
    obtain ⟨x, _, rfl⟩ := List.mem_map.mp hd
    exact sm2 x
  clear e2
  obtain ⟨tp, tp2⟩ := two_pow wd (by omega) (by omega)
  refine q_ret at0 n en (ty_cat (ty_var (x := f2) rfl) (ty_lit (tl_cons (ty_cat (ty_sl (rowD rfl) to_none (to_some (ty_var (x := at1) rfl))) (ty_sl (rowD rfl) (to_some (ty_I0 (f := fun a b => a + b) (ty_var (x := at1) rfl) ty_i)) to_none) (by have := cutD none (some at1); have := cutD (some (at1 + 1)) none; omega)).datLst
    (tl_cons (ty_lit (tl_cons (rowD rfl).datLst tl_nil) (by simp)).datLst (tl_cons ty_s.datStr (tl_cons (ty_cat (rowD rfl) (ty_lit (tl_cons (ty_I0 (f := fun a b => a - b) (y_power ty_i (ty_var (x := wd) rfl) ⟨by omega, by omega, by decide⟩) ty_i).datInt tl_nil) (by simp)) (by simp; omega)).datLst (tl_cons ty_i.datInt (tl_cons ty_n.datNon (tl_cons ty_nil.datLst (tl_cons ty_dnew tl_nil)))))))) (by simp)) (by have := k2.1; simp; omega)) (by omega) fun l v z' B' H' e n h => q l v z' B' H' ?_ (n.le (by show _ ≤ 300; omega)) h
  rw [e]
  refine ⟨by have := k2.1; simp; omega, sm_app k2.2 ?_⟩
  refine sm_cons (by show List.length _ ≤ 30000; have := cutD none (some at1); have := cutD (some (at1 + 1)) none; simp; omega) (sm_cons (by show List.length _ ≤ 30000; simp) (sm_cons trivial (sm_cons (by show List.length _ ≤ 30000; simp; omega) (sm_cons trivial (sm_cons trivial (sm_cons (by show List.length _ ≤ 30000; simp) (sm_cons trivial sm_nil)))))))
end
end K01

set_option maxHeartbeats 4000000
namespace K01
open PySem PySem.Spec PyProof.Rows L2 AP Evl


section
variable {P : Program} {w : World} {K : PySem.W.Frag} {mg : Str → Option Value} {base : Heap}
abbrev s_law_bent_known : Stmt := topS 42
theorem sc_law_bent_known : FnScope ["_law_generator_here", "_law_width", "_law_places_here", "_law_known_here", "_law_word", "_law_place", "_law_found", "_law_others", "_law_odd_here", "_law_other"] ["_law_generator_here", "_law_width", "_law_places_here", "_law_known_here"] (defScope s_law_bent_known) := ⟨rfl, rfl, rfl, by decide +kernel, rfl, by decide +kernel, by decide +kernel⟩
theorem ok_law_bent_known {f : Addr} {fd : FuncData} (F : Df K "_law_bent_known" "_law_bent_known" s_law_bent_known [] f fd) (T : TN mg)  (F_law_random : Fo P w K mg base "_law_random" 2 ["_law_generator_here", "_law_bound"] cRandom.sp) (F_law_power : Fo P w K mg base "_law_power" 1 ["_law_number", "_law_times"] cPower.sp) (F_law_odd : Fo P w K mg base "_law_odd" 2 ["_law_width"] cOdd.sp) :
    FnOk P w K mg base CX0 3 f fd ["_law_generator_here", "_law_width", "_law_places_here", "_law_known_here"] cBentKnown.sp := by
  refine con_go F sc_law_bent_known cBentKnown (fun _ => rfl) fun cdv A outer s H E i G z0 B0 hr hp at0 hz => ⟨_, (pss_cons (ps_asg (pe_tup (pa_cons (pe_fo F_law_random (hr.mono (by decide)) (by rfl) (pa_cons (pv 0) (pa_cons (pe_fo F_law_power (hr.mono (by decide)) (by rfl) (pa_cons pe_int (pa_cons (pv 1) pa_nil))) pa_nil))) (pa_cons (pe_ix (r := rIxL K) ix_list (pv 2) (pe_fo F_law_random (hr.mono (by decide)) (by rfl) (pa_cons (pv 0) (pa_cons (pe_callB (r := rLenS K) call_len_seq (by rfl) T.b_len (by decide +kernel) (pa_cons (pv 2) pa_nil)) pa_nil))) (fun _ _ => rfl)) pa_nil))) (pg_tup rfl (pgs_cons (pg_name (i := 4) sc_law_bent_known.nd rfl (.inl rfl)) (pgs_cons (pg_name (i := 5) sc_law_bent_known.nd rfl (.inr rfl)) pgs_nil))))
     (pss_cons (ps_set (i := 6) sc_law_bent_known.nd rfl (.inl rfl) (pe_lst (pa_cons (pe_revS (pv 3) (pe_op op_sub pe_int pe_int)) (pa_cons (pe_op op_cat (pv 3) (pv 3)) (pa_cons (pe_callTy (r := rTupleOf K) call_tuple_of (by rfl) T.b_tuple (by decide +kernel) (pa_cons (pv 3) pa_nil)) (pa_cons pe_non (pa_cons (pe_lst pa_nil) (pa_cons (pe_lst (pa_cons (pe_tup (pa_cons (pv 5) (pa_cons (pv 4) pa_nil))) pa_nil)) (pa_cons (pe_lst (pa_cons (pe_lst (pa_cons (pv 5) (pa_cons (pv 4) pa_nil))) pa_nil)) (pa_cons (pe_callTy (r := rDictP K) (call_dictP rfl) (by rfl) T.b_dict (by decide +kernel) (pa_cons (pv 3) pa_nil)) pa_nil))))))))))
     (pss_cons (ps_setLc (i := 7) (own := [("_law_other", 9)]) rfl sc_law_bent_known.nd rfl rfl (sw_true rfl rfl rfl (by decide +kernel)) (pi_list (pv 2)) (blkOk_by (own := [("_law_other", 9)]) (N := ["_law_generator_here", "_law_width", "_law_places_here", "_law_known_here", "_law_word", "_law_place", "_law_found", "_law_others", "_law_odd_here", "_law_other"]) (sc := defScope s_law_bent_known) (by decide +kernel)) (fun _ _ _ _ _ => (pg_name (i := 9) sc_law_bent_known.nd rfl (Or.inl rfl))) (fun _ _ _ _ _ => (pts_one (pt_cmpR op_gt (pv 9) (pv 5) (nomark _)))) (fun _ _ _ _ _ => (pe_tup (pa_cons (pv 9) (pa_cons pe_int pa_nil)))))
     (pss_cons (ps_for PassesOwn.never rfl (pi_list (pe_fo F_law_odd (hr.mono (by decide)) (by rfl) (pa_cons (pv 1) pa_nil))) (pg_name (i := 8) sc_law_bent_known.nd rfl (.inl rfl))
      (pss_one (ps_set (i := 6) sc_law_bent_known.nd rfl (.inl rfl) (pe_op op_cat (pv 6) (pe_lst (pa_cons (pe_op op_cat (pv 3) (pe_lst (pa_cons (pe_tup (pa_cons (pv 5) (pa_cons (pv 8) pa_nil))) pa_nil))) (pa_cons (pe_lst (pa_cons (pe_tup (pa_cons (pv 8) (pa_cons (pv 4) pa_nil))) pa_nil)) (pa_cons (pe_op op_cat (pe_lst (pa_cons (pe_tup (pa_cons (pv 5) (pa_cons (pv 8) pa_nil))) pa_nil)) (pv 7)) (pa_cons (pe_lst (pa_cons (pe_tup (pa_cons (pe_ix (r := rIxL K) ix_list (pv 2) pe_int (fun _ _ => rfl)) (pa_cons pe_int pa_nil))) (pa_cons (pe_tup (pa_cons (pv 8) (pa_cons (pv 4) pa_nil))) pa_nil))) pa_nil)))))))))
     (pss_cons (ps_set (i := 6) sc_law_bent_known.nd rfl (.inl rfl) (pe_op op_cat (pv 6) (pe_lst (pa_cons (pe_lst (pa_cons (pe_tup (pa_cons (pv 4) (pa_cons (pv 5) pa_nil))) pa_nil)) (pa_cons (pe_lst (pa_cons (pe_tup (pa_cons (pv 5) pa_nil)) pa_nil)) (pa_cons (pe_lst (pa_cons (pe_tup (pa_cons (pv 5) (pa_cons (pv 4) (pa_cons pe_int pa_nil)))) pa_nil)) (pa_cons (pe_lst (pa_cons (pv 5) pa_nil)) (pa_cons (pe_lst (pa_cons (pe_tup pa_nil) pa_nil)) (pa_cons (pe_lst (pa_cons (pe_tup (pa_cons pe_bl (pa_cons (pv 4) pa_nil))) pa_nil)) (pa_cons pe_int pa_nil))))))))))
     (pss_one (ps_ret (pe_op op_cat (pv 6) (pe_lst (pa_cons (pe_lst (pa_cons (pe_tup (pa_cons (pv 5) (pa_cons (pv 4) pa_nil))) (pa_cons (pe_tup (pa_cons (pv 5) (pa_cons (pv 4) pa_nil))) pa_nil))) (pa_cons (pe_lst (pa_cons (pe_tup (pa_cons (pv 5) (pa_cons pe_int pa_nil))) (pa_cons (pe_tup (pa_cons (pv 5) (pa_cons pe_int pa_nil))) pa_nil))) (pa_cons (pe_lst (pa_cons (pe_tup (pa_cons (pv 5) (pa_cons pe_int pa_nil))) (pa_cons (pe_tup (pa_cons (pv 5) (pa_cons pe_int pa_nil))) pa_nil))) pa_nil)))))))))))), fun σ Q en q => ?_⟩
  have n0 := Nx.refl at0
  obtain ⟨g, wd, ps, kn⟩ := i
  obtain ⟨eG, hw, ⟨hp0, hp1⟩, hk1⟩ := hp
  subst eG
  have hw' : 1 ≤ wd ∧ wd ≤ 64 := hw
  have hp0 : 0 < ps.length := hp0
  have hp1 : ps.length ≤ 100 := hp1
  have hk1 : kn.length ≤ 100 := hk1
  have hz1 : z0 + 600 ≤ 2 ^ 50 := hz
  obtain ⟨tp, tp2⟩ := two_pow wd (by omega) (by omega)
  have knD : ∀ {Γ : AP.Ctx} {k : Nat}, Γ[k]? = some (some (Py.is kn)) → Ty (some g) 0 (tVar k) Γ (· = kn.map AP.pairD) := fun e => (ty_var e).datPairs
  have lenD : (kn.map AP.pairD).length = kn.length := List.length_map ..
  refine q_parT (K := K) at0 n0 en (i := 4) (j := 5) (A := fun n : Int => True) (A1 := fun n : Int => True) ((y_random (ty_var rfl) (y_power ty_i (ty_var (x := wd) rfl) ⟨by omega, by omega, by decide⟩) (small_b tp tp2)).imp fun _ _ => trivial)
    (ty_ixN (A := (· = ps)) (A' := fun n => 0 ≤ n ∧ n < ps.length) (ty_var rfl) (y_random (ty_var rfl) (ty_len (ty_var (x := ps) rfl)) (small_b (by omega) (by omega))) fun xs k e1 e2 => by subst e1; exact ⟨_, atI_in e2.1 e2.2, trivial⟩) (by omega) fun word place z' B' H' σ' _ _ s' n en => ?_
  have pr : ∀ {Γ : AP.Ctx} {k l : Nat} {a b : Int}, Γ[k]? = some (some (Py.is a)) → Γ[l]? = some (some (Py.is b)) → Ty (some g) (0 + (0 + 0)) (tTup (tCons (tVar k) (tCons (tVar l) tNil))) Γ (· = Dat.tup [.int a, .int b]) := fun e1 e2 =>
    ty_tupD (tl_cons (ty_var e1).datInt (tl_cons (ty_var e2).datInt tl_nil)) (by simp)
  refine q_asgS at0 n en (i := 6) (ty_lit (tl_cons (ty_revS (knD rfl) (ty_I0 (f := fun a b => a - b) ty_i ty_i)).datLst (tl_cons (ty_cat (knD rfl) (knD rfl) (by omega)).datLst (tl_cons (ty_tupleOf (knD rfl)) (tl_cons ty_n.datNon (tl_cons ty_nil.datLst
    (tl_cons (ty_lit (tl_cons (pr (a := place) (b := word) rfl rfl) tl_nil) (by simp)).datLst (tl_cons (ty_lit (tl_cons (ty_lit (tl_cons (ty_var (x := place) rfl).datInt (tl_cons (ty_var (x := word) rfl).datInt tl_nil)) (by simp)).datLst tl_nil) (by simp)).datLst (tl_cons (ty_dictP (ty_var (x := kn) rfl)) tl_nil)))))))) (by simp)) (by omega) fun f1 z' B' H' σ' e1 s' n en => ?_
  have k1 : f1.length = 8 ∧ ∀ d ∈ f1, d.small := by
    rw [e1]
    refine ⟨rfl, sm_cons (by show List.length _ ≤ 30000; simp; omega) (sm_cons (by show List.length _ ≤ 30000; simp; omega) (sm_cons trivial (sm_cons trivial (sm_cons (by show List.length _ ≤ 30000; simp) (sm_cons (by show List.length _ ≤ 30000; simp) (sm_cons (by show List.length _ ≤ 30000; simp) (sm_cons trivial sm_nil)))))))⟩
  clear e1
  refine q_asgS at0 n en (i := 7) (ty_lcL (p := fun x : Int => decide (place < x)) (f := fun x : Int => Dat.tup [.int x, .int 0]) (ty_var (x := ps) rfl) (by omega) (by simp) (fun x hx => tt_test (ty_B0 (ty_var (x := x) rfl) (ty_var (x := place) rfl))) fun x hx _ => ty_tupD (tl_cons (ty_var (x := x) rfl).datInt (tl_cons ty_i.datInt tl_nil)) (by simp)) (by omega) fun oth z' B' H' σ' e2 s' n en => ?_
  have k2 : oth.length ≤ 100 := by
    rw [e2, List.length_map]
    exact Nat.le_trans (List.length_filter_le _ _) hp1
  clear e2
  refine q_forS at0 n en (cb := 0) (ti_list (y_odd (ty_var (x := wd) rfl) hw)) (by omega)
    (fun i Γ _ _ => ∃ (found : List Dat) (o8 o9 : Option VP), Γ = [some (Py.is (GenR.mk g)), some (Py.is wd), some (Py.is ps), some (Py.is kn), some (Py.is word), some (Py.is place), some (Py.is found), some (Py.is oth), o8, o9] ∧ found.length = 8 + 4 * i ∧ ∀ d ∈ found, d.small)
    (fun _ _ _ _ _ => ⟨f1, none, none, rfl, k1.1, k1.2⟩) (fun _ _ _ _ _ h _ => h) (fun m em Bs i Γ' z' B' H' σ' hi inv eb n en => ?_) fun m em Γ' z' B' H' σ' inv n en => ?_
  · subst em
    obtain ⟨found, o8, o9, rfl, l1, inv⟩ := inv
    have e := List.getElem?_eq_getElem hi
    rw [itm_eq e] at en
    generalize (oddL wd)[i] = x at en
    have hi : i < 9 := hi
    refine q_asg at0 n en (i := 6) (ty_cat (ty_var (x := found) rfl) (ty_lit (tl_cons (ty_cat (knD rfl) (ty_lit (tl_cons (ty_tupD (tl_cons (ty_var (x := place) rfl).datInt (tl_cons (ty_var (x := x) rfl) tl_nil)) (by simp)) tl_nil) (by simp)) (by simp; omega)).datLst
      (tl_cons (ty_lit (tl_cons (ty_tupD (tl_cons (ty_var (x := x) rfl) (tl_cons (ty_var (x := word) rfl).datInt tl_nil)) (by simp)) tl_nil) (by simp)).datLst
      (tl_cons (ty_cat (ty_lit (tl_cons (ty_tupD (tl_cons (ty_var (x := place) rfl).datInt (tl_cons (ty_var (x := x) rfl) tl_nil)) (by simp)) tl_nil) (by simp)) (ty_var (x := oth) rfl) (by simp; omega)).datLst
      (tl_cons (ty_lit (tl_cons (ty_tupD (tl_cons (ty_ix (ty_var (x := ps) rfl) ty_i (atI_in (by decide) (by omega))).datInt (tl_cons ty_i.datInt tl_nil)) (by simp)) (tl_cons (ty_tupD (tl_cons (ty_var (x := x) rfl) (tl_cons (ty_var (x := word) rfl).datInt tl_nil)) (by simp)) tl_nil)) (by simp)).datLst tl_nil)))) (by simp)) (by simp; omega)) (by omega) fun y z' B' H' σ' ey s2 n en => ?_
    refine ⟨_, z', B', ⟨y, _, _, rfl, ?_⟩, eb.trans s2.up, n.le (by omega), en⟩
    rw [ey]
    exact ⟨by simp; omega, sm_app inv (sm_cons (by show List.length _ ≤ 30000; simp; omega) (sm_cons (by show List.length _ ≤ 30000; simp) (sm_cons (by show List.length _ ≤ 30000; simp; omega) (sm_cons (by show List.length _ ≤ 30000; simp) sm_nil))))⟩
  · subst em
    obtain ⟨found, o8, o9, rfl, l1, inv⟩ := inv
    have l1 : found.length = 44 := l1
    refine q_asgS at0 n en (i := 6) (ty_cat (ty_var (x := found) rfl) (ty_lit (tl_cons (ty_lit (tl_cons (pr (a := word) (b := place) rfl rfl) tl_nil) (by simp)).datLst (tl_cons (ty_lit (tl_cons (ty_tupD (tl_cons (ty_var (x := place) rfl).datInt tl_nil) (by simp)) tl_nil) (by simp)).datLst
      (tl_cons (ty_lit (tl_cons (ty_tupD (tl_cons (ty_var (x := place) rfl).datInt (tl_cons (ty_var (x := word) rfl).datInt (tl_cons ty_i.datInt tl_nil))) (by simp)) tl_nil) (by simp)).datLst (tl_cons (ty_lit (tl_cons (ty_var (x := place) rfl).datInt tl_nil) (by simp)).datLst
      (tl_cons (ty_lit (tl_cons (ty_tupD tl_nil (by simp)) tl_nil) (by simp)).datLst (tl_cons (ty_lit (tl_cons (ty_tupD (tl_cons ty_b.datBl (tl_cons (ty_var (x := word) rfl).datInt tl_nil)) (by simp)) tl_nil) (by simp)).datLst (tl_cons ty_i.datInt tl_nil))))))) (by simp)) (by simp; omega)) (by omega) fun f2 z' B' H' σ' e2 s' n en => ?_
    have k3 : f2.length = 51 ∧ ∀ d ∈ f2, d.small := by
      rw [e2]
      exact ⟨by simp; omega, sm_app inv (sm_cons (by show List.length _ ≤ 30000; simp) (sm_cons (by show List.length _ ≤ 30000; simp) (sm_cons (by show List.length _ ≤ 30000; simp) (sm_cons (by show List.length _ ≤ 30000; simp) (sm_cons (by show List.length _ ≤ 30000; simp) (sm_cons (by show List.length _ ≤ 30000; simp) (sm_cons trivial sm_nil)))))))⟩
    clear e2
    have pi : ∀ {Γ : AP.Ctx} {k : Nat} {a b : Int}, Γ[k]? = some (some (Py.is a)) → Ty (some g) (0 + (0 + 0)) (tTup (tCons (tVar k) (tCons (tC (.int b)) tNil))) Γ (· = Dat.tup [.int a, .int b]) := fun e1 =>
      ty_tupD (tl_cons (ty_var e1).datInt (tl_cons ty_i.datInt tl_nil)) (by simp)
    refine q_ret at0 n en (ty_cat (ty_var (x := f2) rfl) (ty_lit (tl_cons (ty_lit (tl_cons (pr (a := place) (b := word) rfl rfl) (tl_cons (pr (a := place) (b := word) rfl rfl) tl_nil)) (by simp)).datLst (tl_cons (ty_lit (tl_cons (pi (a := place) rfl) (tl_cons (pi (a := place) rfl) tl_nil)) (by simp)).datLst
      (tl_cons (ty_lit (tl_cons (pi (a := place) rfl) (tl_cons (pi (a := place) rfl) tl_nil)) (by simp)).datLst tl_nil))) (by simp)) (by simp; omega)) (by omega) fun l v z' B' H' e n h => q l v z' B' H' ?_ (n.le (by show _ ≤ 600; omega)) h
    rw [e]
    exact ⟨by simp; omega, sm_app k3.2 (sm_cons (by show List.length _ ≤ 30000; simp) (sm_cons (by show List.length _ ≤ 30000; simp) (sm_cons (by show List.length _ ≤ 30000; simp) sm_nil)))⟩
end
end K01

set_option maxHeartbeats 4000000
namespace K01
open PySem PySem.Spec PyProof.Rows L2 AP Evl

def lenB (many : Nat) : Dat → Bool
  | .lst ds => decide (ds.length = many)
  | _ => false
theorem rp_word {w n : Int} (hw : wOk w) (h : 0 ≤ n ∧ n < 2 ^ w.toNat) : Rp 0 100 (.int n) := by
  have h1 := hw.1
  have h2 := hw.2
  refine rp_int ?_
  have e : ((2 : Int) ^ w.toNat) = ((2 ^ w.toNat : Nat) : Int) := by norm_cast
  have l : (2 : Nat) ^ w.toNat ≤ 2 ^ 100 := Nat.pow_le_pow_right (by decide) (by omega)
  omega
theorem rp_ints {w : Int} {ns : List Int} (hw : wOk w) (h : ∀ x ∈ ns, 0 ≤ x ∧ x < 2 ^ w.toNat) (l : ns.length ≤ 100) : Rp 2 30000 (.lst (ns.map Dat.int)) :=
  (rp_lst (k := 0) (W := 100) fun d hd => by
    obtain ⟨x, hx, rfl⟩ := List.mem_map.mp hd
    exact rp_word hw (h x hx)).mono (by decide) (by rw [List.length_map]; omega)
theorem rp_pairs {w : Int} {l : List (Int × Int)} (hw : wOk w) (h : ∀ x ∈ l, (0 ≤ x.1 ∧ x.1 < 2 ^ w.toNat) ∧ (0 ≤ x.2 ∧ x.2 < 2 ^ w.toNat)) (hl : l.length ≤ 100) : Rp 2 30000 (.lst (l.map AP.pairD)) :=
  (rp_lst (k := 1) (W := 202) fun d hd => by
    obtain ⟨x, hx, rfl⟩ := List.mem_map.mp hd
    refine rp_tup (k := 0) (W := 100) (ds := [.int x.1, .int x.2]) fun e he => ?_
    rcases List.mem_cons.mp he with rfl | he
    · exact rp_word hw (h x hx).1
    · rw [List.mem_singleton.mp he]
      exact rp_word hw (h x hx).2).mono (by decide) (by rw [List.length_map]; omega)
def keptD (ps ws : List Int) (kn : List (Int × Int)) : Dat := .lst [.lst (ps.map Dat.int), .lst (ws.map Dat.int), .lst (kn.map AP.pairD)]
theorem rp_kept {w : Int} {ps ws : List Int} {kn : List (Int × Int)} (h1 : Rp 2 30000 (.lst (ps.map Dat.int))) (h2 : Rp 2 30000 (.lst (ws.map Dat.int))) (h3 : Rp 2 30000 (.lst (kn.map AP.pairD))) : Rp 3 100000 (keptD ps ws kn) :=
  (rp_lst (k := 2) (W := 30000) (ds := [.lst (ps.map Dat.int), .lst (ws.map Dat.int), .lst (kn.map AP.pairD)]) fun d hd => by
    rcases List.mem_cons.mp hd with rfl | hd
    · exact h1
    · rcases List.mem_cons.mp hd with rfl | hd
      · exact h2
      · rw [List.mem_singleton.mp hd]
        exact h3).mono (by decide) (by show 30001 * 3 ≤ 100000; decide)
section
variable {K : PySem.W.Frag} {G : Option Addr} {Γ : AP.Ctx}
theorem t_due1 {d : Dat} {ps : List Int} (h6 : Γ[6]? = some (some (Py.is d))) (h2 : Γ[2]? = some (some (Py.is ps))) :
    AP.Ty G 0 (tAndV (tCB (rIsi K) (tCons (tVar 6) (tCons (tC (.ty "list")) tNil))) (tOp rEq (tCB (rLenS K) (tCons (tVar 6) tNil)) (tCB (rLenS K) (tCons (tVar 2) tNil)))) Γ (· = lenB ps.length d) := by
  refine (ty_andV (c1 := 0) (c2 := 0) (b := lenB ps.length d) (ty_isi .list (ty_var h6)) fun hl => ?_).to (by cases d <;> rfl)
  cases d with
  | lst ds =>
    refine (ty_eqI (c1 := 0) (c2 := 0) (ty_len ((ty_var h6).lstDat)) (ty_len (ty_var h2))).to ?_
    show decide ((ds.length : Int) = (ps.length : Int)) = decide (ds.length = ps.length)
    exact decide_eq_decide.mpr (by omega)
  | _ => cases hl
theorem t_due2 {wd : Int} {d : Dat} {b : Bool} {many : Nat} (hw : wOk wd) (sd : d.small) (hb : b = lenB many d) (h6 : Γ[6]? = some (some (Py.is d))) (h7 : Γ[7]? = some (some (Py.is b))) (h1 : ((wipeC Γ [8]).set 8 (some (Py.is Dat.non)))[1]? = some (some (Py.is wd)))
    (h1' : ∀ x : Dat, ((wipeC Γ [8]).set 8 (some (Py.is x)))[1]? = some (some (Py.is wd))) (h8 : ∀ x : Dat, ((wipeC Γ [8]).set 8 (some (Py.is x)))[8]? = some (some (Py.is x))) :
    AP.Ty G 0 (tAndV (tVar 7) (tOp (rEqNil K) (tLc (iList K (tVar 6)) (gName 8) (tNot (tB (tCall cFitsWord.sp [] (fun _ _ _ => False) (tCons (tVar 1) (tCons (tVar 8) tNil))))) (tVar 8) [8]) (tLst tNil))) Γ (· = wordsAtB wd many d) := by
  refine (ty_andV (c1 := 0) (c2 := 0) (b := wordsAtB wd many d) (ty_var h7) fun hl => ?_).to (by rw [hb]; cases d <;> first | rfl | (show (decide _ && (_ && decide _)) = (_ && decide _); rw [← Bool.and_assoc, Bool.and_comm (decide _), Bool.and_assoc, Bool.and_self]))
  rw [hb] at hl
  cases d with
  | lst ds =>
    have sd' : ds.length ≤ 30000 := sd
    have hl' : decide (ds.length = many) = true := hl
    refine (ty_eqNil (c := 0) (ty_lcL (p := fun x => !x.word wd) (f := fun x => x) ((ty_var h6).lstDat) (by omega) (by simp) (fun x hx => tt_notD (tt_B (y_fitsWord (ty_var (h1' x)) (ty_var (h8 x)) hw))) fun x hx _ => ty_var (h8 x))).to ?_
    show ((ds.filter fun x => !x.word wd).map fun x => x).isEmpty = (ds.all (Dat.word wd) && decide (ds.length = many))
    rw [hl', Bool.and_true, List.map_id', Bool.eq_iff_iff, List.isEmpty_iff, List.filter_eq_nil_iff, List.all_eq_true]
    exact ⟨fun h x hx => by simpa using h x hx, fun h x hx => by simpa using h x hx⟩
  | _ => cases hl
end

section
variable {P : Program} {w : World} {K : PySem.W.Frag} {mg : Str → Option Value} {base : Heap}
abbrev s_law_right : Stmt := topS 43
theorem sc_law_right : FnScope ["_law_generator_here", "_law_width", "_law_places_here", "_law_words_here", "_law_known_here", "_law_kept", "_law_value", "_law_due", "_law_item"] ["_law_generator_here"] (defScope s_law_right) := ⟨rfl, rfl, rfl, by decide +kernel, rfl, by decide +kernel, by decide +kernel⟩
theorem ok_law_right {f : Addr} {fd : FuncData} (F : Df K "_law_right" "_law_right" s_law_right [] f fd) (T : TN mg)  (F_law_random : Fo P w K mg base "_law_random" 2 ["_law_generator_here", "_law_bound"] cRandom.sp) (F_law_places : Fo P w K mg base "_law_places" 3 ["_law_generator_here", "_law_width", "_law_most"] cLPlaces.sp) (F_law_words : Fo P w K mg base "_law_words" 3 ["_law_generator_here", "_law_width", "_law_many"] cLWords.sp) (F_law_known : Fo P w K mg base "_law_known" 3 ["_law_generator_here", "_law_width", "_law_places_here"] cLKnown.sp) (F_law_bent : Fo P w K mg base "_law_bent" 3 ["_law_generator_here", "_law_width", "_law_row"] cBent.sp) (F_law_bent_known : Fo P w K mg base "_law_bent_known" 3 ["_law_generator_here", "_law_width", "_law_places_here", "_law_known_here"] cBentKnown.sp) (F_law_are_places : Fo P w K mg base "_law_are_places" 3 ["_law_width", "_law_value"] cArePlaces.sp) (F_law_are_known : Fo P w K mg base "_law_are_known" 3 ["_law_width", "_law_places_here", "_law_value"] cKnown.sp) (F_law_yes : Fo P w K mg base "_law_yes" 1 ["_law_told", "_law_due"] cYes.sp) (F_law_odd : Fo P w K mg base "_law_odd" 2 ["_law_width"] cOdd.sp) (F_law_power : Fo P w K mg base "_law_power" 1 ["_law_number", "_law_times"] cPower.sp) (F_law_is_word : Fo P w K mg base "_law_is_word" 2 ["_law_width", "_law_value"] cFitsWord.sp) (Fis_places : Fo P w K mg base "is_places" 6 ["width", "value"] cIsPlaces.sp) (Fis_words : Fo P w K mg base "is_words" 7 ["width", "places", "value"] cIsWords.sp) (Fis_known : Fo P w K mg base "is_known" 7 ["width", "places", "value"] cIsKnown.sp) (Fis_word : Fo P w K mg base "is_word" 5 ["width", "value"] cIsWord.sp) :
    FnG P w K mg base CX0 8 f fd ["_law_generator_here"] cRight.sp := by
  refine con_goG F sc_law_right cRight (fun _ => rfl) fun cdv A outer s H E i G z0 B0 ng hr hp at0 hz => ⟨_, (pss_cons (ps_set (i := 1) sc_law_right.nd rfl (.inr rfl) (pe_ix (r := rIxL K) ix_list (pe_lst (pa_cons (pe_op op_add pe_int (pe_fo F_law_random (hr.mono (by decide)) (by rfl) (pa_cons (pv 0) (pa_cons pe_int pa_nil)))) (pa_cons (pe_op op_add pe_int (pe_fo F_law_random (hr.mono (by decide)) (by rfl) (pa_cons (pv 0) (pa_cons pe_int pa_nil)))) pa_nil))) (pe_fo F_law_random (hr.mono (by decide)) (by rfl) (pa_cons (pv 0) (pa_cons pe_int pa_nil))) (fun _ _ => rfl)))
     (pss_cons (ps_set (i := 2) sc_law_right.nd rfl (.inl rfl) (pe_fo F_law_places (hr.mono (by decide)) (by rfl) (pa_cons (pv 0) (pa_cons (pv 1) (pa_cons pe_int pa_nil)))))
     (pss_cons (ps_par (i := 3) (j := 4) rfl sc_law_right.nd rfl rfl (by decide) rfl rfl (pa_cons (pe_fo F_law_words (hr.mono (by decide)) (by rfl) (pa_cons (pv 0) (pa_cons (pv 1) (pa_cons (pe_callB (r := rLenS K) call_len_seq (by rfl) T.b_len (by decide +kernel) (pa_cons (pv 2) pa_nil)) pa_nil)))) (pa_cons (pe_fo F_law_known (hr.mono (by decide)) (by rfl) (pa_cons (pv 0) (pa_cons (pv 1) (pa_cons (pv 2) pa_nil)))) pa_nil)) (by rfl))
     (pss_cons (ps_set (i := 5) sc_law_right.nd rfl (.inl rfl) (pe_callB (r := rRepr K) (call_reprD ng hr.units) (by rfl) T.b_repr (by decide +kernel) (pa_cons (pe_lst (pa_cons (pv 2) (pa_cons (pv 3) (pa_cons (pv 4) pa_nil)))) pa_nil)))
     (pss_cons (ps_for PassesOwn.never rfl (pi_list (pe_op op_cat (pe_lst (pa_cons (pv 2) pa_nil)) (pe_fo F_law_bent (hr.mono (by decide)) (by rfl) (pa_cons (pv 0) (pa_cons (pv 1) (pa_cons (pv 2) pa_nil)))))) (pg_name (i := 6) sc_law_right.nd rfl (.inl rfl))
      (pss_cons (ps_set (i := 7) sc_law_right.nd rfl (.inl rfl) (pe_fo F_law_are_places (hr.mono (by decide)) (by rfl) (pa_cons (pv 1) (pa_cons (pv 6) pa_nil))))
       (pss_one (ps_if (PW.pt (pw_or (pt_not (pt_val (pe_fo F_law_yes (hr.mono (by decide)) (by rfl) (pa_cons (pe_fo Fis_places (hr.mono (by decide)) (by rfl) (pa_cons (pv 1) (pa_cons (pv 6) pa_nil))) (pa_cons (pv 7) pa_nil))))) (pw_or1 (pt_not (pt_val (pe_fo F_law_yes (hr.mono (by decide)) (by rfl) (pa_cons (pe_fok Fis_places (hr.mono (by decide)) (by rfl) (pk_cons (pv 6) (pk_cons (pv 1) pk_nil))) (pa_cons (pv 7) pa_nil)))))))) (pss_one (ps_ret pe_bl)) pss_nil))))
     (pss_cons (ps_for PassesOwn.never rfl (pi_list (pe_op op_cat (pe_lst (pa_cons (pv 3) pa_nil)) (pe_fo F_law_bent (hr.mono (by decide)) (by rfl) (pa_cons (pv 0) (pa_cons (pv 1) (pa_cons (pv 3) pa_nil)))))) (pg_name (i := 6) sc_law_right.nd rfl (.inl rfl))
      (pss_cons (ps_set (i := 7) sc_law_right.nd rfl (.inl rfl) (pe_and (pe_callB (r := rIsi K) call_isi (by rfl) T.b_isinstance (by decide +kernel) (pa_cons (pv 6) (pa_cons (pe_bltn (v := .ty "list") (by rfl) T.b_list (by decide +kernel) rfl) pa_nil))) (pe_one (pe_cmpR op_eq (pe_callB (r := rLenS K) call_len_seq (by rfl) T.b_len (by decide +kernel) (pa_cons (pv 6) pa_nil)) (pe_callB (r := rLenS K) call_len_seq (by rfl) T.b_len (by decide +kernel) (pa_cons (pv 2) pa_nil)) (nomark _)))))
       (pss_cons (ps_set (i := 7) sc_law_right.nd rfl (.inl rfl) (pe_and (pv 7) (pe_one (pe_cmpR (r := rEqNil K) (op_eqNil hr.units0) (pe_lc (own := [("_law_item", 8)]) rfl sc_law_right.nd (pi_list (pv 6)) (blkOk_by (own := [("_law_item", 8)]) (N := ["_law_generator_here", "_law_width", "_law_places_here", "_law_words_here", "_law_known_here", "_law_kept", "_law_value", "_law_due", "_law_item"]) (sc := defScope s_law_right) (by decide +kernel)) (fun _ _ _ _ _ => (pg_name (i := 8) sc_law_right.nd rfl (Or.inl rfl))) (fun _ _ _ _ _ => (pts_one (pt_not (pt_val (pe_fo F_law_is_word (hr.mono (by decide)) (by rfl) (pa_cons (pv 1) (pa_cons (pv 8) pa_nil))))))) (fun _ _ _ _ _ => (pv 8))) (pe_lst pa_nil) (nomark _)))))
       (pss_cons (ps_if (pt_not (pt_val (pe_fo F_law_yes (hr.mono (by decide)) (by rfl) (pa_cons (pe_fo Fis_words (hr.mono (by decide)) (by rfl) (pa_cons (pv 1) (pa_cons (pv 2) (pa_cons (pv 6) pa_nil)))) (pa_cons (pv 7) pa_nil))))) (pss_one (ps_ret pe_bl)) pss_nil)
       (pss_one (ps_if (pt_not (pt_val (pe_fo F_law_yes (hr.mono (by decide)) (by rfl) (pa_cons (pe_fok Fis_words (hr.mono (by decide)) (by rfl) (pk_cons (pv 6) (pk_cons (pv 2) (pk_cons (pv 1) pk_nil)))) (pa_cons (pv 7) pa_nil))))) (pss_one (ps_ret pe_bl)) pss_nil))))))
     (pss_cons (ps_for PassesOwn.never rfl (pi_list (pe_op op_cat (pe_lst (pa_cons (pv 4) pa_nil)) (pe_fo F_law_bent_known (hr.mono (by decide)) (by rfl) (pa_cons (pv 0) (pa_cons (pv 1) (pa_cons (pv 2) (pa_cons (pv 4) pa_nil))))))) (pg_name (i := 6) sc_law_right.nd rfl (.inl rfl))
      (pss_cons (ps_set (i := 7) sc_law_right.nd rfl (.inl rfl) (pe_fo F_law_are_known (hr.mono (by decide)) (by rfl) (pa_cons (pv 1) (pa_cons (pv 2) (pa_cons (pv 6) pa_nil)))))
       (pss_cons (ps_if (pt_not (pt_val (pe_fo F_law_yes (hr.mono (by decide)) (by rfl) (pa_cons (pe_fo Fis_known (hr.mono (by decide)) (by rfl) (pa_cons (pv 1) (pa_cons (pv 2) (pa_cons (pv 6) pa_nil)))) (pa_cons (pv 7) pa_nil))))) (pss_one (ps_ret pe_bl)) pss_nil)
       (pss_one (ps_if (pt_not (pt_val (pe_fo F_law_yes (hr.mono (by decide)) (by rfl) (pa_cons (pe_fok Fis_known (hr.mono (by decide)) (by rfl) (pk_cons (pv 6) (pk_cons (pv 2) (pk_cons (pv 1) pk_nil)))) (pa_cons (pv 7) pa_nil))))) (pss_one (ps_ret pe_bl)) pss_nil)))))
     (pss_cons (ps_for PassesOwn.never rfl (pi_list (pe_op op_cat (pe_op op_cat (pe_op op_cat (pv 2) (pv 3)) (pe_fo F_law_odd (hr.mono (by decide)) (by rfl) (pa_cons (pv 1) pa_nil))) (pe_lst (pa_cons (pe_op op_sub (pe_fo F_law_power (hr.mono (by decide)) (by rfl) (pa_cons pe_int (pa_cons (pv 1) pa_nil))) pe_int) pa_nil)))) (pg_name (i := 6) sc_law_right.nd rfl (.inl rfl))
      (pss_cons (ps_set (i := 7) sc_law_right.nd rfl (.inl rfl) (pe_fo F_law_is_word (hr.mono (by decide)) (by rfl) (pa_cons (pv 1) (pa_cons (pv 6) pa_nil))))
       (pss_one (ps_if (PW.pt (pw_or (pt_not (pt_val (pe_fo F_law_yes (hr.mono (by decide)) (by rfl) (pa_cons (pe_fo Fis_word (hr.mono (by decide)) (by rfl) (pa_cons (pv 1) (pa_cons (pv 6) pa_nil))) (pa_cons (pv 7) pa_nil))))) (pw_or1 (pt_not (pt_val (pe_fo F_law_yes (hr.mono (by decide)) (by rfl) (pa_cons (pe_fok Fis_word (hr.mono (by decide)) (by rfl) (pk_cons (pv 6) (pk_cons (pv 1) pk_nil))) (pa_cons (pv 7) pa_nil)))))))) (pss_one (ps_ret pe_bl)) pss_nil))))
     (pss_one (ps_ret (pe_cmpR op_eq (pe_callB (r := rRepr K) (call_reprD ng hr.units) (by rfl) T.b_repr (by decide +kernel) (pa_cons (pe_lst (pa_cons (pv 2) (pa_cons (pv 3) (pa_cons (pv 4) pa_nil)))) pa_nil)) (pv 5) (nomark _)))))))))))), fun σ Q en q => ?_⟩
  have n0 := Nx.refl at0
  have eG : G = some i := hp
  subst eG
  have hz1 : z0 + 1000000 ≤ 2 ^ 50 := hz
  refine q_asgS at0 n0 en (i := 1) (ty_ixN (A := fun xs : List Int => xs.length = 2 ∧ ∀ x ∈ xs, 1 ≤ x ∧ x ≤ 64) (A' := fun k => 0 ≤ k ∧ k < 2) (A2 := fun x => 1 ≤ x ∧ x ≤ 64)
    (ty_lst ((tl_consN (ty_I0N (f := fun a b => a + b) ty_i (y_random (ty_var rfl) ty_i (small_b (by decide) (by decide)))) (tl_consN (ty_I0N (f := fun a b => a + b) ty_i (y_random (ty_var rfl) ty_i (small_b (by decide) (by decide)))) tl_nil)).imp fun l hl => ?_) (fun xs hx => by rw [hx.1]; decide)) (y_random (ty_var rfl) ty_i (small_b (by decide) (by decide))) fun xs k h1 h2 => ?_) (by omega) fun wd z' B' H' σ' hw s' n en => ?_
  · obtain ⟨x, xs, rfl, ⟨a, b, e1, e2, e3⟩, y, ys, rfl, ⟨a', b', e1', e2', e3'⟩, rfl⟩ := hl
    refine ⟨rfl, fun t ht => ?_⟩
    have e3 : x = a + b := e3
    have e3' : y = a' + b' := e3'
    rcases List.mem_cons.mp ht with rfl | ht
    · omega
    · rw [List.mem_singleton.mp ht]
      omega
  · have lt : k.toNat < xs.length := by omega
    refine ⟨xs[k.toNat], ?_, h1.2 _ (List.getElem_mem lt)⟩
    unfold atI ixN
    rw [if_pos h2.1, if_pos (by omega)]
    exact List.getElem?_eq_getElem lt
  have hw : wOk wd := hw
  refine q_asgS at0 n en (i := 2) (y_lplaces (ty_var rfl) (ty_var (x := wd) rfl) ty_i ⟨hw, by decide, by decide⟩) (by omega) fun ps z' B' H' σ' hps s' n en => ?_
  have lp := hps.2.1
  refine q_par at0 n en (y_lwords (ty_var rfl) (ty_var (x := wd) rfl) (ty_len (ty_var (x := ps) rfl)) ⟨hw, by omega, by omega⟩) (y_lknown (ty_var rfl) (ty_var (x := wd) rfl) (ty_var (x := ps) rfl) ⟨hw, lp, hps.2.2.1⟩) (by omega) fun ws kn z' B' H' σ' hws hkn s' n en => ?_
  have lw : ws.length ≤ 100 := by have := hws.1; omega
  have r1 := rp_ints hw hps.2.2.1 lp
  have r2 := rp_ints hw hws.2 lw
  have r3 := rp_pairs hw hkn.2 hkn.1
  have rk := rp_kept (w := wd) r1 r2 r3
  refine q_asgS at0 n en (i := 5) (ty_repr (d := keptD ps ws kn) (ty_lit (tl_cons ((ty_var (x := ps) rfl).datInts.datLst) (tl_cons ((ty_var (x := ws) rfl).datInts.datLst) (tl_cons ((ty_var (x := kn) rfl).datPairs.datLst) tl_nil))) (by simp)).datLst rk (by decide) (by decide)) (by omega) fun kept z' B' H' σ' ek s' n en => ?_
  have smInts : ∀ ns : List Int, ns.length ≤ 100 → (Dat.lst (ns.map Dat.int)).small := fun ns h => by show List.length _ ≤ 30000; rw [List.length_map]; omega
  -- the places
  refine q_forS at0 n en (cb := 0) (ti_listN (P := Dat.small) (ty_catN (ty_lit (tl_cons ((ty_var (x := ps) rfl).datInts.datLst) tl_nil) (by simp)) (y_bent (ty_var rfl) (ty_var (x := wd) rfl) (ty_var (x := ps) rfl) ⟨hw, lp⟩) (fun xs ys e1 e2 => by rw [e1]; have := e2.1; simp; omega)) (fun l ⟨xs, ys, e1, e2, e⟩ x hx => by
      rw [e, e1] at hx
      exact sm_app (sm_cons (smInts ps lp) sm_nil) e2.2 x hx)) (by omega)
    (fun _ Γ _ _ => ∃ o6 o7 o8 : Option VP, Γ = [some (Py.is (GenR.mk i)), some (Py.is wd), some (Py.is ps), some (Py.is ws), some (Py.is kn), some (Py.is kept), o6, o7, o8]) (fun _ _ _ _ _ => ⟨none, none, none, rfl⟩) (fun _ _ _ _ _ h _ => h)
    (fun m em Bs k Γ' z' B' H' σ' hi inv eb n en => ?_) fun m em Γ' z' B' H' σ' inv n en => ?_
  · obtain ⟨o6, o7, o8, rfl⟩ := inv
    obtain ⟨d, sd, en⟩ := en.name (k := 6) rfl
    refine q_asgS at0 n en (i := 7) (y_arePlaces (ty_var (x := wd) rfl) (ty_var (x := d) rfl) ⟨hw, sd⟩) (by omega) fun due z' B' H' σ' ed s1 n en => ?_
    exact s_not at0 n en ((tt_or (tt_notD (tt_B (y_yes (y_isPlaces (ty_var (x := wd) rfl) (ty_var (x := d) rfl) ⟨hw, sd⟩) (ty_var (x := due) rfl)))) fun _ => tt_notD (tt_B (y_yes (k_isPlaces (ty_var (x := wd) rfl) (ty_var (x := d) rfl) ⟨hw, sd⟩) (ty_var (x := due) rfl)))).to (by rw [ed]; simp)) (by omega) fun z' B' H' s2 n en => ⟨_, z', B', ⟨_, _, _, rfl⟩, (eb.trans s1.up).trans s2.up, n.le (by omega), en⟩
  obtain ⟨o6, o7, o8, rfl⟩ := inv
  -- the words
  refine q_forS at0 n en (cb := 0) (ti_listN (P := Dat.small) (ty_catN (ty_lit (tl_cons ((ty_var (x := ws) rfl).datInts.datLst) tl_nil) (by simp)) (y_bent (ty_var rfl) (ty_var (x := wd) rfl) (ty_var (x := ws) rfl) ⟨hw, lw⟩) (fun xs ys e1 e2 => by rw [e1]; have := e2.1; simp; omega)) (fun l ⟨xs, ys, e1, e2, e⟩ x hx => by
      rw [e, e1] at hx
      exact sm_app (sm_cons (smInts ws lw) sm_nil) e2.2 x hx)) (by omega)
    (fun _ Γ _ _ => ∃ o6 o7 o8 : Option VP, Γ = [some (Py.is (GenR.mk i)), some (Py.is wd), some (Py.is ps), some (Py.is ws), some (Py.is kn), some (Py.is kept), o6, o7, o8]) (fun _ _ _ _ _ => ⟨o6, o7, o8, rfl⟩) (fun _ _ _ _ _ h _ => h)
    (fun m em Bs k Γ' z' B' H' σ' hi inv eb n en => ?_) fun m em Γ' z' B' H' σ' inv n en => ?_
  · obtain ⟨o6, o7, o8, rfl⟩ := inv
    obtain ⟨d, sd, en⟩ := en.name (k := 6) rfl
    refine q_asgS at0 n en (i := 7) (t_due1 (ps := ps) (d := d) rfl rfl) (by omega) fun due1 z' B' H' σ' ed1 s0 n en => ?_
    refine q_asgS at0 n en (i := 7) (t_due2 (wd := wd) (d := d) (b := due1) (many := ps.length) hw sd ed1 rfl rfl rfl (fun _ => rfl) (fun _ => rfl)) (by omega) fun due z' B' H' σ' ed s1 n en => ?_
    refine q_not at0 n en ((tt_notD (tt_B (y_yes (y_isWords (ty_var (x := wd) rfl) (ty_var (x := ps) rfl) (ty_var (x := d) rfl) ⟨hw, hps.places, sd⟩) (ty_var (x := due) rfl)))).to (by rw [ed]; simp)) (by omega) fun z' B' H' s2 n en => ?_
    exact s_not at0 n en ((tt_notD (tt_B (y_yes (k_isWords (ty_var (x := wd) rfl) (ty_var (x := ps) rfl) (ty_var (x := d) rfl) ⟨hw, hps.places, sd⟩) (ty_var (x := due) rfl)))).to (by rw [ed]; simp)) (by omega) fun z' B' H' s3 n en => ⟨_, z', B', ⟨_, _, _, rfl⟩, (((eb.trans s0.up).trans s1.up).trans s2.up).trans s3.up, n.le (by omega), en⟩
  obtain ⟨o6, o7, o8, rfl⟩ := inv
  -- the known words
  refine q_forS at0 n en (cb := 0) (ti_listN (P := Dat.small) (ty_catN (ty_lit (tl_cons ((ty_var (x := kn) rfl).datPairs.datLst) tl_nil) (by simp)) (y_bentKnown (ty_var rfl) (ty_var (x := wd) rfl) (ty_var (x := ps) rfl) (ty_var (x := kn) rfl) ⟨hw, ⟨hps.1, lp⟩, hkn.1⟩) (fun xs ys e1 e2 => by rw [e1]; have := e2.1; simp; omega)) (fun l ⟨xs, ys, e1, e2, e⟩ x hx => by
      rw [e, e1] at hx
      exact sm_app (sm_cons (by show List.length _ ≤ 30000; rw [List.length_map]; have := hkn.1; omega) sm_nil) e2.2 x hx)) (by omega)
    (fun _ Γ _ _ => ∃ o6 o7 o8 : Option VP, Γ = [some (Py.is (GenR.mk i)), some (Py.is wd), some (Py.is ps), some (Py.is ws), some (Py.is kn), some (Py.is kept), o6, o7, o8]) (fun _ _ _ _ _ => ⟨o6, o7, o8, rfl⟩) (fun _ _ _ _ _ h _ => h)
    (fun m em Bs k Γ' z' B' H' σ' hi inv eb n en => ?_) fun m em Γ' z' B' H' σ' inv n en => ?_
  · obtain ⟨o6, o7, o8, rfl⟩ := inv
    obtain ⟨d, sd, en⟩ := en.name (k := 6) rfl
    refine q_asgS at0 n en (i := 7) (y_known (ty_var (x := wd) rfl) (ty_var (x := ps) rfl) (ty_var (x := d) rfl) ⟨hw, sd⟩) (by omega) fun due z' B' H' σ' ed s1 n en => ?_
    refine q_not at0 n en ((tt_notD (tt_B (y_yes (y_isKnown (ty_var (x := wd) rfl) (ty_var (x := ps) rfl) (ty_var (x := d) rfl) ⟨hw, hps.places, sd⟩) (ty_var (x := due) rfl)))).to (by rw [ed]; simp)) (by omega) fun z' B' H' s2 n en => ?_
    exact s_not at0 n en ((tt_notD (tt_B (y_yes (k_isKnown (ty_var (x := wd) rfl) (ty_var (x := ps) rfl) (ty_var (x := d) rfl) ⟨hw, hps.places, sd⟩) (ty_var (x := due) rfl)))).to (by rw [ed]; simp)) (by omega) fun z' B' H' s3 n en => ⟨_, z', B', ⟨_, _, _, rfl⟩, ((eb.trans s1.up).trans s2.up).trans s3.up, n.le (by omega), en⟩
  obtain ⟨o6, o7, o8, rfl⟩ := inv
  -- single words
  have hw' : 1 ≤ wd ∧ wd ≤ 64 := hw
  refine q_forS at0 n en (cb := 0) (ti_listN (P := fun _ => True) (ty_cat (ty_cat (ty_cat ((ty_var (x := ps) rfl).datInts) ((ty_var (x := ws) rfl).datInts) (by simp; omega)) (y_odd (ty_var (x := wd) rfl) hw) (by simp [oddL]; omega)) (ty_lit (tl_cons (ty_I0 (f := fun a b => a - b) (y_power ty_i (ty_var (x := wd) rfl) ⟨by omega, by omega, by decide⟩) ty_i).datInt tl_nil) (by simp)) (by simp [oddL]; omega)) (fun _ _ _ _ => trivial)) (by omega)
    (fun _ Γ _ _ => ∃ o6 o7 o8 : Option VP, Γ = [some (Py.is (GenR.mk i)), some (Py.is wd), some (Py.is ps), some (Py.is ws), some (Py.is kn), some (Py.is kept), o6, o7, o8]) (fun _ _ _ _ _ => ⟨o6, o7, o8, rfl⟩) (fun _ _ _ _ _ h _ => h)
    (fun m em Bs k Γ' z' B' H' σ' hi inv eb n en => ?_) fun m em Γ' z' B' H' σ' inv n en => ?_
  · obtain ⟨o6, o7, o8, rfl⟩ := inv
    obtain ⟨d, sd, en⟩ := en.name (k := 6) rfl
    refine q_asgS at0 n en (i := 7) (y_fitsWord (ty_var (x := wd) rfl) (ty_var (x := d) rfl) hw) (by omega) fun due z' B' H' σ' ed s1 n en => ?_
    exact s_not at0 n en ((tt_or (tt_notD (tt_B (y_yes (y_isWord (ty_var (x := wd) rfl) (ty_var (x := d) rfl) hw) (ty_var (x := due) rfl)))) fun _ => tt_notD (tt_B (y_yes (k_isWord (ty_var (x := wd) rfl) (ty_var (x := d) rfl) hw) (ty_var (x := due) rfl)))).to (by rw [ed]; simp)) (by omega) fun z' B' H' s2 n en => ⟨_, z', B', ⟨_, _, _, rfl⟩, (eb.trans s1.up).trans s2.up, n.le (by omega), en⟩
  obtain ⟨o6, o7, o8, rfl⟩ := inv
  have mb : ∃ x, m = x := ⟨_, rfl⟩
  refine q_ret at0 n en ((ty_eqS (ty_repr (d := keptD ps ws kn) (ty_lit (tl_cons ((ty_var (x := ps) rfl).datInts.datLst) (tl_cons ((ty_var (x := ws) rfl).datInts.datLst) (tl_cons ((ty_var (x := kn) rfl).datPairs.datLst) tl_nil))) (by simp)).datLst rk (by decide) (by decide)) (ty_var (x := kept) rfl)).to (y := true) (by rw [ek]; exact decide_eq_true rfl)) (by omega) fun x v z' B' H' e n h => q x v z' B' H' e (n.le (by show _ ≤ 1000000; omega)) h
end
end K01

set_option maxHeartbeats 0
namespace K01
open PySem PySem.Spec PyProof.Rows L2 AP Evl


/-! ### the law's own draws -/
abbrev s_hash : Stmt := topS 27
abbrev s_random : Stmt := topS 28
abbrev s_cell : Stmt := topS 29
abbrev s_generator : Stmt := topS 30
theorem sc_hash : FnScope ["_law_seed", "_law_index", "_law_mixed"] ["_law_seed", "_law_index"] (defScope s_hash) :=
  ⟨rfl, rfl, rfl, by decide +kernel, rfl, by decide +kernel, by decide +kernel⟩
theorem sc_random : FnScope ["_law_generator_here", "_law_bound", "_law_drawn", "_law_turn"] ["_law_generator_here", "_law_bound"] (defScope s_random) :=
  ⟨rfl, rfl, rfl, by decide +kernel, rfl, by decide +kernel, by decide +kernel⟩
theorem sc_cell : FnScope ["_law_script", "_law_index"] ["_law_script", "_law_index"] (defScope s_cell) :=
  ⟨rfl, rfl, rfl, by decide +kernel, rfl, by decide +kernel, by decide +kernel⟩
theorem sc_generator : FnScope ["_law_script", "_law_index", "_law_seed"] ["_law_script", "_law_index"] (defScope s_generator) :=
  ⟨rfl, rfl, rfl, by decide +kernel, rfl, by decide +kernel, by decide +kernel⟩
/-- the built-in names that the draws use -/
structure TB (mg : Str → Option Value) : Prop where
  int : mg "int" = none
  len : mg "len" = none
  sum : mg "sum" = none
  max : mg "max" = none
  range : mg "range" = none
section
variable {P : Program} {w : World} {K : PySem.W.Frag} {mg : Str → Option Value} {base : Heap}
theorem ok_hash {f : Addr} {fd : FuncData} (F : Df K "_law_hash" "_law_hash" s_hash [] f fd) (T : TB mg) :
    FnOk P w K mg base CX0 1 f fd ["_law_seed", "_law_index"] spHash := by
  refine F.go sc_hash (fun vs H Q E h => ?_) (fun cdv A outer s H vs Q E hr h => ?_)
  · obtain ⟨_, _, rfl, _⟩ := h
    rfl
  · obtain ⟨s0, i, rfl, h0, h1, q⟩ := h
    refine ⟨_, pss_cons (ps_set (i := 2) sc_hash.nd rfl (.inl rfl) (pe_op op_mod (pe_callTy call_int1 (by rfl) T.int (by decide +kernel) (pa_cons (pe_op op_add (pe_op op_add (pe_op op_add (pe_op op_mul (pv 0) pe_int) (pe_op op_mul (pe_op op_mul pe_int (pv 1)) (pv 1))) (pe_op op_mul pe_int (pv 1))) pe_int) pa_nil)) pe_int))
     (pss_cons (ps_set (i := 2) sc_hash.nd rfl (.inl rfl) (pe_op op_mod (pe_callTy call_int1 (by rfl) T.int (by decide +kernel) (pa_cons (pe_op op_add (pe_op op_add (pe_op op_mul (pv 2) (pv 2)) (pe_op op_mul pe_int (pv 1))) pe_int) pa_nil)) pe_int))
     (pss_one (ps_ret (pe_op op_mod (pe_callTy call_int1 (by rfl) T.int (by decide +kernel) (pa_cons (pe_op op_mul (pv 2) pe_int) pa_nil)) pe_int)))), ?_⟩
    refine ⟨_, rfl, _, _, rfl, rfl, .inr ⟨by decide, by decide⟩, _, rfl, _, _, rfl, rfl, .inl ⟨by decide, by decide⟩, _, rfl, _, _, rfl, rfl, .inr ⟨by omega, by omega⟩,
      _, _, rfl, rfl, _, rfl, _, _, rfl, rfl, .inl ⟨by decide, by decide⟩, _, _, rfl, rfl, _, _, rfl, rfl, .inl ⟨_, rfl, _, _, rfl, rfl, (by show (0 : Int) < 2147483629; decide), ?_⟩⟩
    obtain ⟨m, em, m0, m1⟩ := rest_of (s0 * 1140671 + 27644437 * i * i + 131 * i + 19) (n := 2147483629) (by decide)
    dsimp only
    rw [em]
    refine ⟨_, rfl, _, rfl, _, _, rfl, rfl, .inl ⟨by omega, by omega⟩, _, rfl, _, _, rfl, rfl, .inl ⟨by decide, by decide⟩, _, _, rfl, rfl, _, _, rfl, rfl,
      .inl ⟨_, rfl, _, _, rfl, rfl, (by show (0 : Int) < 2147483587; decide), ?_⟩⟩
    obtain ⟨m', em', m0', m1'⟩ := rest_of (m * m + 62089 * i + 32416187) (n := 2147483587) (by decide)
    dsimp only
    rw [em']
    refine ⟨_, rfl, _, _, rfl, rfl, .inr ⟨by decide, by decide⟩, .inl ⟨_, rfl, _, _, rfl, rfl, (by show (0 : Int) < 2147483647; decide), ?_⟩⟩
    obtain ⟨n, en, n0, n1⟩ := rest_of (m' * 48271) (n := 2147483647) (by decide)
    dsimp only
    rw [en]
    exact q n n0 (by omega)
theorem ok_random {f fh : Addr} {fd fdh : FuncData} (F : Df K "_law_random" "_law_random" s_random [] f fd) (T : TB mg)
    (FH : Df K "_law_hash" "_law_hash" s_hash [] fh fdh) (mH : mg "_law_hash" = some (.ref fh)) (bH : Binds K fdh ["_law_seed", "_law_index"] []) :
    FnOk P w K mg base CX0 2 f fd ["_law_generator_here", "_law_bound"] spRandom := by
  have GH : FnOk P w K mg base CX0 1 fh fdh ["_law_seed", "_law_index"] spHash := ok_hash FH T
  refine F.go sc_random (fun vs H Q E h => ?_) (fun cdv A outer s H vs Q E hr h => ?_)
  · obtain ⟨_, _, _, _, _, rfl, _⟩ := h
    rfl
  · obtain ⟨g, b, x, y, z, rfl, ⟨hg, hx, hy, hz, hz'⟩, hb, hb', q⟩ := h
    refine ⟨_, pss_cons (ps_if (pt_cmpR op_gt (pe_ix ix_list (pv 0) pe_int (fun _ _ => rfl)) pe_int (nomark _)) (pss_cons (ps_set (i := 2) sc_random.nd rfl (.inl rfl) (pe_op op_mod (pe_callTy call_int1 (by rfl) T.int (by decide +kernel) (pa_cons (pe_ix ix_list (pv 0) pe_int (fun _ _ => rfl)) pa_nil)) (pv 1)))
       (pss_cons (ps_asg (pe_op op_fdivW (pe_ix ix_list (pv 0) pe_int (fun _ _ => rfl)) (pv 1)) (pg_sub (pv 0) pe_int set_list))
       (pss_one (ps_ret (pv 2))))) pss_nil)
     (pss_cons (ps_set (i := 2) sc_random.nd rfl (.inl rfl) pe_int)
     (pss_cons (ps_for PassesOwn.never rfl (pi_range1 (by rfl) T.range (pa_cons (pe_op op_add pe_int (pe_op op_fdivW (pe_bits (pv 1)) pe_int)) pa_nil)) (pg_name (i := 3) sc_random.nd rfl (.inl rfl))
      (pss_cons (ps_asg (pe_op op_add (pe_ix ix_list (pv 0) pe_int (fun _ _ => rfl)) pe_int) (pg_sub (pv 0) pe_int set_list))
       (pss_one (ps_set (i := 2) sc_random.nd rfl (.inl rfl) (pe_op op_add (pe_op op_mul (pv 2) pe_int) (pe_call GH hr (by rfl) mH FH.kp bH .nil pass0 (pa_cons (pe_ix ix_list (pv 0) pe_int (fun _ _ => rfl)) (pa_cons (pe_ix ix_list (pv 0) pe_int (fun _ _ => rfl)) pa_nil))))))))
     (pss_one (ps_ret (pe_op op_mod (pe_callTy call_int1 (by rfl) T.int (by decide +kernel) (pa_cons (pv 2) pa_nil)) (pv 1)))))), ?_⟩
    have sq : SqL K H g [.int x, .int y, .int z] := SqL.of hg
    refine ⟨_, rfl, _, _, 0, _, rfl, rfl, sq, atI_nat (j := 0) rfl, _, _, rfl, rfl, _, rfl, ite2 (fun c => ?_) (fun c => ?_)⟩
    · -- digits of the seed
      have x0 : 0 < x := of_decide_eq_true c
      obtain ⟨r, er, r0, r1⟩ := rest_of x (n := b) hb
      have d0 : 0 ≤ x / b := Int.ediv_nonneg hx (by omega)
      have d1 : x / b ≤ x := Int.ediv_le_self _ hx
      refine ⟨_, rfl, _, _, 0, _, rfl, rfl, sq, atI_nat (j := 0) rfl, .inl ⟨_, rfl, _, rfl, _, _, rfl, rfl, hb, ?_⟩⟩
      dsimp only
      rw [er]
      refine ⟨_, rfl, _, _, 0, _, rfl, rfl, sq, atI_nat (j := 0) rfl, _, rfl, _, _, rfl, rfl, wide_div hb hb' (by decide) (by decide),
        _, rfl, g, _, 0, 0, rfl, rfl, hg, rfl, _, rfl, ?_⟩
      exact q r (x / b) z _ r0 r1 ⟨upd_same, d0, hy, hz, by omega⟩ (fun a ha => upd_ne ha) (by omega)
    · -- a hash for each thirty bits
      have nb : (Builtin.Int.intBits b : Int) ≤ 8999 := bits_small hb hb'
      refine ⟨_, rfl, _, rfl, _, _, rfl, rfl, wide_div (b := 9) (by decide) (by decide) (by decide) (by decide), _, _, rfl, rfl, _, rfl, by omega, by omega, ?_⟩
      have nt : (1 + (Builtin.Int.intBits b : Int) / 30).toNat ≤ 300 := by omega
      refine for_range (lo := 0) (n := (1 + (Builtin.Int.intBits b : Int) / 30).toNat) (fun j σ' H' => ∃ (dr z' : Int) (t : Option V), σ' = [some (.ref g), some (.int b), some (.int dr), t] ∧ 0 ≤ dr ∧
          (H' g = some (.lst [.int x, .int y, .int z']) ∧ z ≤ z' ∧ z' ≤ z + j) ∧ ∀ a, a ≠ g → H' a = H a)
        ⟨0, z, none, rfl, by decide, ⟨hg, by omega, by omega⟩, fun _ _ => rfl⟩ (fun j σ' H' hj hp => ?_) (fun σ' H' hp => ?_)
      · obtain ⟨dr, z', t, rfl, hdr, ⟨hg', hz1, hz2⟩, oth⟩ := hp
        have sq' : SqL K H' g [.int x, .int y, .int z'] := SqL.of hg'
        refine ⟨_, rfl, _, _, 2, _, rfl, rfl, sq', atI_nat (j := 2) rfl, _, _, rfl, rfl, _, rfl, g, _, 2, 2, rfl, rfl, hg', rfl, ?_⟩
        have hg2 : (upd H' g (.lst ([V.int x, V.int y, V.int z'].set 2 (V.int (z' + 1))))) g = some (.lst [.int x, .int y, .int (z' + 1)]) := upd_same
        have sq2 := SqL.of (K := K) hg2
        refine ⟨_, rfl, _, _, rfl, rfl, .inr ⟨by decide, by decide⟩, _, rfl, _, _, 1, _, rfl, rfl, sq2, atI_nat (j := 1) rfl, _, rfl, _, _, 2, _, rfl, rfl, sq2, atI_nat (j := 2) rfl,
          y, z' + 1, rfl, by omega, by omega, fun n n0 n1 => ⟨_, _, rfl, rfl, dr * 2147483587 + n, z' + 1, _, rfl, by omega, ⟨hg2, by omega, by omega⟩, fun a ha => ?_⟩⟩
        exact (upd_ne ha).trans (oth a ha)
      · obtain ⟨dr, z', t, rfl, hdr, ⟨hg', hz1, hz2⟩, oth⟩ := hp
        obtain ⟨r, er, r0, r1⟩ := rest_of dr (n := b) hb
        refine ⟨_, rfl, .inl ⟨_, rfl, _, rfl, _, _, rfl, rfl, hb, ?_⟩⟩
        dsimp only
        rw [er]
        exact q r x z' H' r0 r1 ⟨hg', hx, hy, by omega, by omega⟩ oth (by omega)
theorem ok_cell {f : Addr} {fd : FuncData} (F : Df K "_law_cell" "_law_cell" s_cell [] f fd) (T : TB mg) :
    FnOk P w K mg base CX0 1 f fd ["_law_script", "_law_index"] (spCellA K) := by
  refine F.go sc_cell (fun vs H Q E h => ?_) (fun cdv A outer s H vs Q E hr h => ?_)
  · obtain ⟨_, _, _, rfl, _⟩ := h
    rfl
  · obtain ⟨a, ns, i, rfl, hS, q⟩ := h
    refine ⟨_, pss_cons (ps_if (pt_cmpR op_lt (pv 1) (pe_callB call_len_seq (by rfl) T.len (by decide +kernel) (pa_cons (pv 0) pa_nil)) (nomark _)) (pss_one (ps_ret (pe_ix ix_list (pv 0) (pv 1) (fun _ _ => rfl)))) pss_nil)
     (pss_one (ps_ret (pe_op op_mod (pe_callB (cr_sum rfl) (by rfl) T.sum (by decide +kernel) (pa_cons (pe_slice sl_list (pv 0) po_none (po_some pe_int)) pa_nil)) pe_int))), ?_⟩
    refine ⟨_, rfl, _, rfl, _, _, rfl, .inl hS, _, _, rfl, rfl, _, rfl, ite2 (fun c => ?_) (fun c => ?_)⟩
    · have lt : i < ns.length := by
        have c' : (i : Int) < ((ns.map V.int).length : Nat) := of_decide_eq_true c
        rw [List.length_map] at c'
        omega
      have at_ : (ns.map V.int)[i]? = some (.int ns[i]) := by
        rw [List.getElem?_map, List.getElem?_eq_getElem lt] <;> rfl
      exact ⟨_, rfl, _, rfl, _, _, _, _, rfl, rfl, hS, atI_nat at_, q _ _ (Evl.Ex.refl H)⟩
    · refine ⟨_, rfl, _, rfl, a, _, rfl, hS, fun p np => ?_⟩
      obtain ⟨ms, em⟩ := cut_ints ns none (some 1)
      refine ⟨p, ms, rfl, SqL.of (by rw [← em]; exact upd_same), _, _, rfl, rfl, (by show (0 : Int) < 1000003; decide), ?_⟩
      exact q _ _ (Evl.Ex.new np)
theorem ok_generator {f fc : Addr} {fd fdc : FuncData} (F : Df K "_law_generator" "_law_generator" s_generator [] f fd) (T : TB mg)
    (FC : Df K "_law_cell" "_law_cell" s_cell [] fc fdc) (mC : mg "_law_cell" = some (.ref fc)) (bC : Binds K fdc ["_law_script", "_law_index"] []) :
    FnOk P w K mg base CX0 2 f fd ["_law_script", "_law_index"] (spGenerator K) := by
  have GC : FnOk P w K mg base CX0 1 fc fdc ["_law_script", "_law_index"] (spCellA K) := ok_cell FC T
  refine F.go sc_generator (fun vs H Q E h => ?_) (fun cdv A outer s H vs Q E hr h => ?_)
  · obtain ⟨_, _, _, rfl, _⟩ := h
    rfl
  · obtain ⟨a, ns, i, rfl, hS, hi, q⟩ := h
    refine ⟨_, pss_cons (ps_set (i := 2) sc_generator.nd rfl (.inl rfl) (pe_call GC hr (by rfl) mC FC.kp bC .nil pass0 (pa_cons (pv 0) (pa_cons (pv 1) pa_nil))))
     (pss_one (ps_ret (pe_lst (pa_cons (pe_op op_mod (pe_callTy call_int1 (by rfl) T.int (by decide +kernel) (pa_cons (pe_callB (call_max2 rfl) (by rfl) T.max (by decide +kernel) (pa_cons (pe_op op_sub (pv 2) (pe_op op_powW pe_int pe_int)) (pa_cons pe_int pa_nil))) pa_nil)) (pe_op op_powW (pe_op op_powW pe_int pe_int) pe_int)) (pa_cons (pe_op op_mod (pe_callTy call_int1 (by rfl) T.int (by decide +kernel) (pa_cons (pv 2) pa_nil)) pe_int) (pa_cons (pe_op op_mul pe_int (pv 1)) pa_nil)))))), ?_⟩
    refine ⟨_, rfl, _, rfl, a, ns, i, rfl, hS, fun c H1 e1 => ?_⟩
    refine ⟨_, rfl, _, _, rfl, rfl, pow_a, _, _, rfl, rfl, _, _, rfl, .inl ⟨_, rfl, _, _, rfl, rfl, pow_b, _, _, rfl, rfl, pow_c, _, _, rfl, rfl, pow_d,
      _, rfl, .inl ⟨_, rfl, _, _, rfl, rfl, (by show (0 : Int) < 2147483647; decide), _, rfl, _, _, rfl, rfl, .inl ⟨by decide, by decide⟩, by show 3 ≤ sizeLine; decide, fun p np => ?_⟩⟩⟩
    have y1 : c % 2147483647 < 2147483647 := Int.emod_lt_of_pos _ (by decide)
    exact q p _ (Evl.fresh_back e1 np) (e1.trans (Evl.Ex.new np)) ⟨_, c % 2147483647, 1000 * i, upd_same, Int.emod_nonneg _ (by have := pow_d; omega),
      ⟨Int.emod_nonneg _ (by decide), by omega⟩, by omega, by omega⟩
end

section
variable {P : Program} {w : World} {K : PySem.W.Frag} {mg : Str → Option Value} {base : Heap}
abbrev slaw : Stmt := topS 44
theorem sclaw : FnScope ["_law_script", "_law_index", "_law_value", "_law_due"] ["_law_script"] (defScope slaw) := ⟨rfl, rfl, rfl, by decide +kernel, rfl, by decide +kernel, by decide +kernel⟩
theorem ok_law {f : Addr} {fd : FuncData} (F : Df K "law" "law" slaw [] f fd) (T : TN mg) (F_law_generator : Fo P w K mg base "_law_generator" 2 ["_law_script", "_law_index"] (spGenerator K)) (F_law_right : FoG P w K mg base "_law_right" 8 ["_law_generator_here"] cRight.sp) (F_law_is_whole : Fo P w K mg base "_law_is_whole" 1 ["_law_value"] cWhole.sp) (F_law_yes : Fo P w K mg base "_law_yes" 1 ["_law_told", "_law_due"] cYes.sp) (Fis_width : Fo P w K mg base "is_width" 4 ["value"] cIsWidth.sp) (Fis_places : Fo P w K mg base "is_places" 6 ["width", "value"] cIsPlaces.sp) (Fis_words : Fo P w K mg base "is_words" 7 ["width", "places", "value"] cIsWords.sp) :
    FnG P w K mg base CX0 9 f fd ["_law_script"] (spLaw K) := by
  refine F.goG sclaw (fun vs H Q E h => ?_) (fun cdv A outer s H vs Q E ng hr h => ?_)
  · obtain ⟨_, _, rfl, _⟩ := h
    rfl
  · obtain ⟨a, ns, rfl, hS, q⟩ := h
    refine ⟨_, (pss_cons (ps_for PassesOwn.never rfl (pi_range1 (by rfl) T.b_range (pa_cons pe_int pa_nil)) (pg_name (i := 1) sclaw.nd rfl (.inl rfl))
      (pss_one (ps_if (pt_not (pt_val (pe_fog F_law_right ng (hr.mono (by decide)) (by rfl) (pa_cons (pe_fo F_law_generator (hr.mono (by decide)) (by rfl) (pa_cons (pv 0) (pa_cons (pv 1) pa_nil))) pa_nil)))) (pss_one (ps_ret pe_bl)) pss_nil)))
     (pss_cons (ps_for PassesOwn.never rfl (pi_list (pe_lst (pa_cons pe_int (pa_cons pe_int (pa_cons pe_int (pa_cons pe_int (pa_cons pe_int (pa_cons pe_int (pa_cons pe_non (pa_cons pe_bl (pa_cons pe_str (pa_cons (pe_lst (pa_cons pe_int pa_nil)) (pa_cons (pe_op op_sub pe_int pe_int) (pa_cons (pe_tup (pa_cons pe_int pa_nil)) (pa_cons pe_dnewK pa_nil))))))))))))))) (pg_name (i := 2) sclaw.nd rfl (.inl rfl))
      (pss_cons (ps_set (i := 3) sclaw.nd rfl (.inl rfl) (pe_and (pe_fo F_law_is_whole (hr.mono (by decide)) (by rfl) (pa_cons (pv 2) pa_nil)) (pe_one (pe_chain op_le op_le pe_int (pv 2) pe_int))))
       (pss_one (ps_if (PW.pt (pw_or (pt_not (pt_val (pe_fo F_law_yes (hr.mono (by decide)) (by rfl) (pa_cons (pe_fo Fis_width (hr.mono (by decide)) (by rfl) (pa_cons (pv 2) pa_nil)) (pa_cons (pv 3) pa_nil))))) (pw_or1 (pt_not (pt_val (pe_fo F_law_yes (hr.mono (by decide)) (by rfl) (pa_cons (pe_fok Fis_width (hr.mono (by decide)) (by rfl) (pk_cons (pv 2) pk_nil)) (pa_cons (pv 3) pa_nil)))))))) (pss_one (ps_ret pe_bl)) pss_nil))))
     (pss_one (ps_ret (pe_and (pe_cmpR op_isBl (pe_fo Fis_places (hr.mono (by decide)) (by rfl) (pa_cons pe_int (pa_cons (pe_listRg rfl (by rfl) T.b_list (prg_1 (by rfl) T.b_range pe_int)) pa_nil))) pe_bl (nomark _)) (pe_one (pe_cmpR op_isBl (pe_fo Fis_words (hr.mono (by decide)) (by rfl) (pa_cons pe_int (pa_cons (pe_lst (pa_cons pe_int (pa_cons pe_int pa_nil))) (pa_cons (pe_lst (pa_cons pe_int (pa_cons pe_int pa_nil))) pa_nil)))) pe_bl (nomark _)))))))), ?_⟩
    have at0 : At none 0 H H := at_none
    have n0 := Nx.refl at0
    have en := slo_law (N := ["_law_script", "_law_index", "_law_value", "_law_due"]) hS
    have hz : (0 : Int) + 0 ≤ 2 ^ 50 := by decide
    have en : Slo H (L2.start ["_law_script", "_law_index", "_law_value", "_law_due"] [.ref a]) [some (ScP K a ns), none, none, none] := en
    refine q_forS at0 n0 en (cb := 0) (ti_rng1 (ta_cons ty_i ta_nil) (by decide)) hz (fun _ Γ _ _ => ∃ o1 o2 o3 : Option VP, Γ = [some (ScP K a ns), o1, o2, o3]) (fun _ _ _ _ _ => ⟨none, none, none, rfl⟩) (fun _ _ _ _ _ h _ => h)
      (fun m em Bs k Γ' z' B' H' σ' hi inv eb n en => ?_) fun m em Γ' z' B' H' σ' inv n en => ?_
    · obtain ⟨o1, o2, o3, rfl⟩ := inv
      subst em
      have hi : k < 3 := hi
      exact s_not at0 n en ((tt_notD (tt_B (ty_rightgen (C := cRight) (a := a) (ns := ns) (i := k) (k := 0) (l := 1) (fun _ => rfl) (fun _ => rfl) (fun _ => by show (1000000 : Nat) ≤ 2 ^ 49; decide) (fun _ _ h => h) rfl rfl (by omega)))).to rfl) (by simp) fun z' B' H' s2 n en => ⟨_, z', B', ⟨_, _, _, rfl⟩, eb.trans s2.up, n.le (by simp), en⟩
    obtain ⟨o1, o2, o3, rfl⟩ := inv
    refine q_forS at0 n en (cb := 0) (ti_listN (P := fun _ => True) (ty_lit (α := Dat) (tl_cons ty_i.datInt (tl_cons ty_i.datInt (tl_cons ty_i.datInt (tl_cons ty_i.datInt (tl_cons ty_i.datInt (tl_cons ty_i.datInt (tl_cons ty_n.datNon (tl_cons ty_b.datBl (tl_cons ty_s.datStr
      (tl_cons (ty_lit (tl_cons ty_i.datInt tl_nil) (by simp)).datLst (tl_cons (ty_I0 (f := fun a b => a - b) ty_i ty_i).datInt (tl_cons (ty_tupD (tl_cons ty_i.datInt tl_nil) (by simp)) (tl_cons ty_dnew tl_nil))))))))))))) (by simp)) (fun _ _ _ _ => trivial)) (by simp) (fun _ Γ _ _ => ∃ o1 o2 o3 : Option VP, Γ = [some (ScP K a ns), o1, o2, o3]) (fun _ _ _ _ _ => ⟨o1, o2, o3, rfl⟩) (fun _ _ _ _ _ h _ => h)
      (fun m em Bs k Γ' z' B' H' σ' hi inv eb n en => ?_) fun m em Γ' z' B' H' σ' inv n en => ?_
    · obtain ⟨o1, o2, o3, rfl⟩ := inv
      obtain ⟨d, _, en⟩ := en.name (k := 2) rfl
      refine q_asgS at0 n en (i := 3) ((ty_andV (c2 := 0) (y_whole (ty_var (x := d) rfl)) fun hw => ty_chain ty_i ((ty_var (x := d) rfl).intOf hw) ty_i).to (Dat.within_eq 1 64 d).symm) (by simp) fun due z' B' H' σ' ed s1 n en => ?_
      exact s_not at0 n en ((tt_or (tt_notD (tt_B (y_yes (y_isWidth (ty_var (x := d) rfl)) (ty_var (x := due) rfl)))) fun _ => tt_notD (tt_B (y_yes (k_isWidth (ty_var (x := d) rfl)) (ty_var (x := due) rfl)))).to (by rw [ed]; simp)) (by simp) fun z' B' H' s2 n en => ⟨_, z', B', ⟨_, _, _, rfl⟩, (eb.trans s1.up).trans s2.up, n.le (by simp), en⟩
    obtain ⟨o1, o2, o3, rfl⟩ := inv
    have w7 : wOk 7 := by unfold wOk; decide
    have w1 : wOk 1 := by unfold wOk; decide
    have p1 : Places 1 [0, 1] := ⟨by decide +kernel, by decide⟩
    refine q_ret at0 n en ((ty_andV (c2 := 0) (ty_isB (y_isPlaces ty_i (ty_listRg ty_i (by decide) (by decide)).datInts.datLst ⟨w7, by show List.length _ ≤ 30000; decide +kernel⟩) ty_b) fun _ => ty_isB (y_isWords ty_i (ty_lit (tl_cons ty_i (tl_cons ty_i tl_nil)) (by simp)) (ty_lit (tl_cons ty_i (tl_cons ty_i tl_nil)) (by simp)).datInts.datLst ⟨w1, p1, by show List.length _ ≤ 30000; decide +kernel⟩) ty_b).to (y := true) (by decide +kernel)) (by simp) fun x v z' B' H' e n h => ?_
    subst e
    cases (show v = .bl true from h)
    exact q H'
end
/-! ### the head -/
def fn : List He.DefD := [
  ⟨("is_whole", none), "is_whole", "is_whole", defArgs sis_whole, defBody sis_whole, defScope sis_whole, [], []⟩,
  ⟨("is_between", none), "is_between", "is_between", defArgs sis_between, defBody sis_between, defScope sis_between, [], []⟩,
  ⟨("fits_width", none), "fits_width", "fits_width", defArgs sfits_width, defBody sfits_width, defScope sfits_width, [], []⟩,
  ⟨("fits_word", none), "fits_word", "fits_word", defArgs sfits_word, defBody sfits_word, defScope sfits_word, [], []⟩,
  ⟨("is_one_of", none), "is_one_of", "is_one_of", defArgs sis_one_of, defBody sis_one_of, defScope sis_one_of, [], []⟩,
  ⟨("are_words", none), "are_words", "are_words", defArgs sare_words, defBody sare_words, defScope sare_words, [], []⟩,
  ⟨("climbs", none), "climbs", "climbs", defArgs sclimbs, defBody sclimbs, defScope sclimbs, [], []⟩,
  ⟨("are_places", none), "are_places", "are_places", defArgs sare_places, defBody sare_places, defScope sare_places, [], []⟩,
  ⟨("are_words_at", none), "are_words_at", "are_words_at", defArgs sare_words_at, defBody sare_words_at, defScope sare_words_at, [], []⟩,
  ⟨("is_known_word", none), "is_known_word", "is_known_word", defArgs sis_known_word, defBody sis_known_word, defScope sis_known_word, [], []⟩,
  ⟨("are_known", none), "are_known", "are_known", defArgs sare_known, defBody sare_known, defScope sare_known, [], []⟩,
  ⟨("need_width", none), "need_width", "need_width", defArgs sneed_width, defBody sneed_width, defScope sneed_width, [], []⟩,
  ⟨("need_places", none), "need_places", "need_places", defArgs sneed_places, defBody sneed_places, defScope sneed_places, [], []⟩,
  ⟨("is_width", none), "is_width", "is_width", defArgs sis_width, defBody sis_width, defScope sis_width, [], []⟩,
  ⟨("is_word", none), "is_word", "is_word", defArgs sis_word, defBody sis_word, defScope sis_word, [], []⟩,
  ⟨("is_places", none), "is_places", "is_places", defArgs sis_places, defBody sis_places, defScope sis_places, [], []⟩,
  ⟨("is_words", none), "is_words", "is_words", defArgs sis_words, defBody sis_words, defScope sis_words, [], []⟩,
  ⟨("is_known", none), "is_known", "is_known", defArgs sis_known, defBody sis_known, defScope sis_known, [], []⟩,
  ⟨("_law_hash", none), "_law_hash", "_law_hash", defArgs s_hash, defBody s_hash, defScope s_hash, [], []⟩,
  ⟨("_law_random", none), "_law_random", "_law_random", defArgs s_random, defBody s_random, defScope s_random, [], []⟩,
  ⟨("_law_cell", none), "_law_cell", "_law_cell", defArgs s_cell, defBody s_cell, defScope s_cell, [], []⟩,
  ⟨("_law_generator", none), "_law_generator", "_law_generator", defArgs s_generator, defBody s_generator, defScope s_generator, [], []⟩,
  ⟨("_law_yes", none), "_law_yes", "_law_yes", defArgs s_law_yes, defBody s_law_yes, defScope s_law_yes, [], []⟩,
  ⟨("_law_power", none), "_law_power", "_law_power", defArgs s_law_power, defBody s_law_power, defScope s_law_power, [], []⟩,
  ⟨("_law_places", none), "_law_places", "_law_places", defArgs s_law_places, defBody s_law_places, defScope s_law_places, [], []⟩,
  ⟨("_law_words", none), "_law_words", "_law_words", defArgs s_law_words, defBody s_law_words, defScope s_law_words, [], []⟩,
  ⟨("_law_is_whole", none), "_law_is_whole", "_law_is_whole", defArgs s_law_is_whole, defBody s_law_is_whole, defScope s_law_is_whole, [], []⟩,
  ⟨("_law_is_word", none), "_law_is_word", "_law_is_word", defArgs s_law_is_word, defBody s_law_is_word, defScope s_law_is_word, [], []⟩,
  ⟨("_law_known", none), "_law_known", "_law_known", defArgs s_law_known, defBody s_law_known, defScope s_law_known, [], []⟩,
  ⟨("_law_are_places", none), "_law_are_places", "_law_are_places", defArgs s_law_are_places, defBody s_law_are_places, defScope s_law_are_places, [], []⟩,
  ⟨("_law_are_known", none), "_law_are_known", "_law_are_known", defArgs s_law_are_known, defBody s_law_are_known, defScope s_law_are_known, [], []⟩,
  ⟨("_law_odd", none), "_law_odd", "_law_odd", defArgs s_law_odd, defBody s_law_odd, defScope s_law_odd, [], []⟩,
  ⟨("_law_bent", none), "_law_bent", "_law_bent", defArgs s_law_bent, defBody s_law_bent, defScope s_law_bent, [], []⟩,
  ⟨("_law_bent_known", none), "_law_bent_known", "_law_bent_known", defArgs s_law_bent_known, defBody s_law_bent_known, defScope s_law_bent_known, [], []⟩,
  ⟨("_law_right", none), "_law_right", "_law_right", defArgs s_law_right, defBody s_law_right, defScope s_law_right, [], []⟩,
  ⟨("law", none), "law", "law", defArgs slaw, defBody slaw, defScope slaw, [], []⟩]
def fa : List He.Fa := [.glo "is_whole", .glo "is_between", .glo "fits_width", .glo "fits_word", .glo "is_one_of", .glo "are_words", .glo "climbs", .glo "are_places", .glo "are_words_at", .glo "is_known_word", .glo "are_known", .glo "need_width", .glo "need_places", .glo "is_width", .glo "is_word", .glo "is_places", .glo "is_words", .glo "is_known", .glo "_law_hash", .glo "_law_random", .glo "_law_cell", .glo "_law_generator", .glo "_law_yes", .glo "_law_power", .glo "_law_places", .glo "_law_words", .glo "_law_is_whole", .glo "_law_is_word", .glo "_law_known", .glo "_law_are_places", .glo "_law_are_known", .glo "_law_odd", .glo "_law_bent", .glo "_law_bent_known", .glo "_law_right", .glo "law", .free "int", .free "bool", .free "list", .free "tuple", .free "dict", .free "isinstance", .free "all", .free "any", .free "len", .free "range", .free "sum", .free "max", .free "min", .free "sorted", .free "repr", .free "enumerate", .free "zip", .free "reversed", .free "abs", .int "WIDEST" 64]
abbrev R : PySem.W.OpenRow := PySem.W.OpenLaw.row PySem.Challenge.rw_anyplaces_k01_widths_words_and_places
abbrev hk : PySem.W.Hook := He.hookD 4 fa fn
def ob (s : PySem.W.SharedT) : He.AlD := He.obsDG 4 fa fn (HandSHeadRun.getT s)
theorem ob_eq (s : PySem.W.SharedT) : ob s = hk.obs s.abs := He.obsDG_eq (HandSHeadRun.getT_eq s)
abbrev loose : List Str := "CodeError" :: "InvalidWidth" :: "InvalidPlaces" :: "is_whole" :: "is_between" :: "fits_width" :: "fits_word" :: "is_one_of" :: "are_words" :: "climbs" :: "are_places" :: "are_words_at" :: "is_known_word" :: "are_known" :: "need_width" :: "need_places" :: "is_width" :: "is_word" :: "is_places" :: "is_words" :: "is_known" :: "_law_hash" :: "_law_random" :: "_law_cell" :: "_law_generator" :: "_law_yes" :: "_law_power" :: "_law_places" :: "_law_words" :: "_law_is_whole" :: "_law_is_word" :: "_law_known" :: "_law_are_places" :: "_law_are_known" :: "_law_odd" :: "_law_bent" :: "_law_bent_known" :: "_law_right" :: "WIDEST" :: []
theorem run (w : World) : HandSHeadRun.RunEq R (PySem.W.view R.prog [44]) hk ob 8000 loose w := by
  intro os
  kernel_rfl
theorem facts {P : Program} {w : World} {K : PySem.W.Frag} {h : Heap} {mg : Str → Option Value} {f : Addr} (X : K.In h) (G : h.Ns mainGlobals mg) (hfa : mg ("law" : Str) = some (.ref f)) (c : He.SaysD fa fn K) :
    ∃ fd : FuncData, (∀ (s : Shared) (v : Value), BindsTo s fd ⟨[v], []⟩ [("_law_script", v)]) ∧ ∀ base : Heap, K.In base → base.Ns mainGlobals mg → FnG P w K mg base CX0 9 f fd ["_law_script"] (spLaw K) := by
  obtain ⟨d0, Z0⟩ := c.def_ 0 (d := _) rfl
  obtain ⟨d1, Z1⟩ := c.def_ 1 (d := _) rfl
  obtain ⟨d2, Z2⟩ := c.def_ 2 (d := _) rfl
  obtain ⟨d3, Z3⟩ := c.def_ 3 (d := _) rfl
  obtain ⟨d4, Z4⟩ := c.def_ 4 (d := _) rfl
  obtain ⟨d5, Z5⟩ := c.def_ 5 (d := _) rfl
  obtain ⟨d6, Z6⟩ := c.def_ 6 (d := _) rfl
  obtain ⟨d7, Z7⟩ := c.def_ 7 (d := _) rfl
  obtain ⟨d8, Z8⟩ := c.def_ 8 (d := _) rfl
  obtain ⟨d9, Z9⟩ := c.def_ 9 (d := _) rfl
  obtain ⟨d10, Z10⟩ := c.def_ 10 (d := _) rfl
  obtain ⟨d11, Z11⟩ := c.def_ 11 (d := _) rfl
  obtain ⟨d12, Z12⟩ := c.def_ 12 (d := _) rfl
  obtain ⟨d13, Z13⟩ := c.def_ 13 (d := _) rfl
  obtain ⟨d14, Z14⟩ := c.def_ 14 (d := _) rfl
  obtain ⟨d15, Z15⟩ := c.def_ 15 (d := _) rfl
  obtain ⟨d16, Z16⟩ := c.def_ 16 (d := _) rfl
  obtain ⟨d17, Z17⟩ := c.def_ 17 (d := _) rfl
  obtain ⟨d18, Z18⟩ := c.def_ 18 (d := _) rfl
  obtain ⟨d19, Z19⟩ := c.def_ 19 (d := _) rfl
  obtain ⟨d20, Z20⟩ := c.def_ 20 (d := _) rfl
  obtain ⟨d21, Z21⟩ := c.def_ 21 (d := _) rfl
  obtain ⟨d22, Z22⟩ := c.def_ 22 (d := _) rfl
  obtain ⟨d23, Z23⟩ := c.def_ 23 (d := _) rfl
  obtain ⟨d24, Z24⟩ := c.def_ 24 (d := _) rfl
  obtain ⟨d25, Z25⟩ := c.def_ 25 (d := _) rfl
  obtain ⟨d26, Z26⟩ := c.def_ 26 (d := _) rfl
  obtain ⟨d27, Z27⟩ := c.def_ 27 (d := _) rfl
  obtain ⟨d28, Z28⟩ := c.def_ 28 (d := _) rfl
  obtain ⟨d29, Z29⟩ := c.def_ 29 (d := _) rfl
  obtain ⟨d30, Z30⟩ := c.def_ 30 (d := _) rfl
  obtain ⟨d31, Z31⟩ := c.def_ 31 (d := _) rfl
  obtain ⟨d32, Z32⟩ := c.def_ 32 (d := _) rfl
  obtain ⟨d33, Z33⟩ := c.def_ 33 (d := _) rfl
  obtain ⟨d34, Z34⟩ := c.def_ 34 (d := _) rfl
  obtain ⟨d35, Z35⟩ := c.def_ 35 (d := _) rfl
  have glo : ∀ (i : Nat) (y : Str), fa[i]? = some (.glo y) → mg y = some (.ref (He.ga K y)) := fun i y e => He.glo_ok X G (c.fact i e)
  have free : ∀ (i : Nat) (y : Str), fa[i]? = some (.free y) → mg y = none := fun i y e => He.free_ok X G (c.fact i e)
  have T : TN mg := ⟨free 36 _ rfl, free 37 _ rfl, free 38 _ rfl, free 39 _ rfl, free 40 _ rfl, free 41 _ rfl, free 42 _ rfl, free 43 _ rfl, free 44 _ rfl, free 45 _ rfl, free 46 _ rfl, free 47 _ rfl, free 48 _ rfl, free 49 _ rfl, free 50 _ rfl, free 51 _ rfl, free 52 _ rfl, free 53 _ rfl, free 54 _ rfl⟩
  have IWIDEST := He.int_ok X G (x := "WIDEST") (i := 64) (c.fact 55 rfl)
  have e := hfa.symm.trans (glo 35 "law" rfl)
  cases e
  have bl := FunD.bindsA (ps := ["_law_script"]) Z35 fun _ _ _ _ _ _ us hl => match us, hl with | [_], _ => rfl
  refine ⟨d35, fun s v => bl s [v] rfl, fun base _ _ => ?_⟩
  have Fis_whole : Fo P w K mg base "is_whole" 1 ["value"] cWhole.sp := .mk' (qual := "is_whole") (st := sis_whole) Z0 (glo 0 _ rfl) (ok_is_whole Z0 T) (fun _ _ _ _ _ _ us hl => match us, hl with | [_], _ => rfl) (fun _ _ _ _ _ _ us hl => match us, hl with | [_], _ => rfl)
  have Fis_between : Fo P w K mg base "is_between" 2 ["value", "low", "high"] cBetween.sp := .mk' (qual := "is_between") (st := sis_between) Z1 (glo 1 _ rfl) (ok_is_between Z1 T Fis_whole) (fun _ _ _ _ _ _ us hl => match us, hl with | [_, _, _], _ => rfl) (fun _ _ _ _ _ _ us hl => match us, hl with | [_, _, _], _ => rfl)
  have Ffits_width : Fo P w K mg base "fits_width" 3 ["value"] cFitsWidth.sp := .mk' (qual := "fits_width") (st := sfits_width) Z2 (glo 2 _ rfl) (ok_fits_width Z2 T IWIDEST Fis_between) (fun _ _ _ _ _ _ us hl => match us, hl with | [_], _ => rfl) (fun _ _ _ _ _ _ us hl => match us, hl with | [_], _ => rfl)
  have Ffits_word : Fo P w K mg base "fits_word" 3 ["width", "value"] cFitsWord.sp := .mk' (qual := "fits_word") (st := sfits_word) Z3 (glo 3 _ rfl) (ok_fits_word Z3 T Fis_between) (fun _ _ _ _ _ _ us hl => match us, hl with | [_, _], _ => rfl) (fun _ _ _ _ _ _ us hl => match us, hl with | [_, _], _ => rfl)
  have Fis_one_of : Fo P w K mg base "is_one_of" 2 ["places", "value"] cIsOneOf.sp := .mk' (qual := "is_one_of") (st := sis_one_of) Z4 (glo 4 _ rfl) (ok_is_one_of Z4 T Fis_whole) (fun _ _ _ _ _ _ us hl => match us, hl with | [_, _], _ => rfl) (fun _ _ _ _ _ _ us hl => match us, hl with | [_, _], _ => rfl)
  have Fare_words : Fo P w K mg base "are_words" 4 ["width", "value"] cAreWords.sp := .mk' (qual := "are_words") (st := sare_words) Z5 (glo 5 _ rfl) (ok_are_words Z5 T Ffits_word) (fun _ _ _ _ _ _ us hl => match us, hl with | [_, _], _ => rfl) (fun _ _ _ _ _ _ us hl => match us, hl with | [_, _], _ => rfl)
  have Fclimbs : Fo P w K mg base "climbs" 1 ["numbers"] cClimbs.sp := .mk' (qual := "climbs") (st := sclimbs) Z6 (glo 6 _ rfl) (ok_climbs Z6 T) (fun _ _ _ _ _ _ us hl => match us, hl with | [_], _ => rfl) (fun _ _ _ _ _ _ us hl => match us, hl with | [_], _ => rfl)
  have Fare_places : Fo P w K mg base "are_places" 5 ["width", "value"] cArePlaces.sp := .mk' (qual := "are_places") (st := sare_places) Z7 (glo 7 _ rfl) (ok_are_places Z7 T Fare_words Fclimbs) (fun _ _ _ _ _ _ us hl => match us, hl with | [_, _], _ => rfl) (fun _ _ _ _ _ _ us hl => match us, hl with | [_, _], _ => rfl)
  have Fare_words_at : Fo P w K mg base "are_words_at" 5 ["width", "places", "value"] cWordsAt.sp := .mk' (qual := "are_words_at") (st := sare_words_at) Z8 (glo 8 _ rfl) (ok_are_words_at Z8 T Fare_words) (fun _ _ _ _ _ _ us hl => match us, hl with | [_, _, _], _ => rfl) (fun _ _ _ _ _ _ us hl => match us, hl with | [_, _, _], _ => rfl)
  have Fis_known_word : Fo P w K mg base "is_known_word" 4 ["width", "places", "value"] cKnownOne.sp := .mk' (qual := "is_known_word") (st := sis_known_word) Z9 (glo 9 _ rfl) (ok_is_known_word Z9 T Fis_one_of Ffits_word) (fun _ _ _ _ _ _ us hl => match us, hl with | [_, _, _], _ => rfl) (fun _ _ _ _ _ _ us hl => match us, hl with | [_, _, _], _ => rfl)
  have Fare_known : Fo P w K mg base "are_known" 5 ["width", "places", "value"] cKnown.sp := .mk' (qual := "are_known") (st := sare_known) Z10 (glo 10 _ rfl) (ok_are_known Z10 T Fis_known_word Fclimbs) (fun _ _ _ _ _ _ us hl => match us, hl with | [_, _, _], _ => rfl) (fun _ _ _ _ _ _ us hl => match us, hl with | [_, _, _], _ => rfl)
  have Fneed_width : Fo P w K mg base "need_width" 4 ["width"] cNeedWidth.sp := .mk' (qual := "need_width") (st := sneed_width) Z11 (glo 11 _ rfl) (ok_need_width Z11 T Ffits_width) (fun _ _ _ _ _ _ us hl => match us, hl with | [_], _ => rfl) (fun _ _ _ _ _ _ us hl => match us, hl with | [_], _ => rfl)
  have Fneed_places : Fo P w K mg base "need_places" 6 ["width", "places"] cNeedPlaces.sp := .mk' (qual := "need_places") (st := sneed_places) Z12 (glo 12 _ rfl) (ok_need_places Z12 T Fare_places) (fun _ _ _ _ _ _ us hl => match us, hl with | [_, _], _ => rfl) (fun _ _ _ _ _ _ us hl => match us, hl with | [_, _], _ => rfl)
  have Fis_width : Fo P w K mg base "is_width" 4 ["value"] cIsWidth.sp := .mk' (qual := "is_width") (st := sis_width) Z13 (glo 13 _ rfl) (ok_is_width Z13 T Ffits_width) (fun _ _ _ _ _ _ us hl => match us, hl with | [_], _ => rfl) (fun _ _ _ _ _ _ us hl => match us, hl with | [_], _ => rfl)
  have Fis_word : Fo P w K mg base "is_word" 5 ["width", "value"] cIsWord.sp := .mk' (qual := "is_word") (st := sis_word) Z14 (glo 14 _ rfl) (ok_is_word Z14 T Fneed_width Ffits_word) (fun _ _ _ _ _ _ us hl => match us, hl with | [_, _], _ => rfl) (fun _ _ _ _ _ _ us hl => match us, hl with | [_, _], _ => rfl)
  have Fis_places : Fo P w K mg base "is_places" 6 ["width", "value"] cIsPlaces.sp := .mk' (qual := "is_places") (st := sis_places) Z15 (glo 15 _ rfl) (ok_is_places Z15 T Fneed_width Fare_places) (fun _ _ _ _ _ _ us hl => match us, hl with | [_, _], _ => rfl) (fun _ _ _ _ _ _ us hl => match us, hl with | [_, _], _ => rfl)
  have Fis_words : Fo P w K mg base "is_words" 7 ["width", "places", "value"] cIsWords.sp := .mk' (qual := "is_words") (st := sis_words) Z16 (glo 16 _ rfl) (ok_is_words Z16 T Fneed_width Fneed_places Fare_words_at) (fun _ _ _ _ _ _ us hl => match us, hl with | [_, _, _], _ => rfl) (fun _ _ _ _ _ _ us hl => match us, hl with | [_, _, _], _ => rfl)
  have Fis_known : Fo P w K mg base "is_known" 7 ["width", "places", "value"] cIsKnown.sp := .mk' (qual := "is_known") (st := sis_known) Z17 (glo 17 _ rfl) (ok_is_known Z17 T Fneed_width Fneed_places Fare_known) (fun _ _ _ _ _ _ us hl => match us, hl with | [_, _, _], _ => rfl) (fun _ _ _ _ _ _ us hl => match us, hl with | [_, _, _], _ => rfl)
  have F_law_hash : Fo P w K mg base "_law_hash" 1 ["_law_seed", "_law_index"] spHash := .mk' (qual := "_law_hash") (st := s_hash) Z18 (glo 18 _ rfl) (ok_hash Z18 ⟨T.b_int, T.b_len, T.b_sum, T.b_max, T.b_range⟩) (fun _ _ _ _ _ _ us hl => match us, hl with | [_, _], _ => rfl) (fun _ _ _ _ _ _ us hl => match us, hl with | [_, _], _ => rfl)
  have F_law_random : Fo P w K mg base "_law_random" 2 ["_law_generator_here", "_law_bound"] cRandom.sp := .mk' (qual := "_law_random") (st := s_random) Z19 (glo 19 _ rfl) (random_con (ok_random Z19 ⟨T.b_int, T.b_len, T.b_sum, T.b_max, T.b_range⟩ Z18 (glo 18 _ rfl) (FunD.bindsN Z18 fun _ _ _ _ _ _ us hl => match us, hl with | [_, _], _ => rfl))) (fun _ _ _ _ _ _ us hl => match us, hl with | [_, _], _ => rfl) (fun _ _ _ _ _ _ us hl => match us, hl with | [_, _], _ => rfl)
  have F_law_cell : Fo P w K mg base "_law_cell" 1 ["_law_script", "_law_index"] (spCellA K) := .mk' (qual := "_law_cell") (st := s_cell) Z20 (glo 20 _ rfl) (ok_cell Z20 ⟨T.b_int, T.b_len, T.b_sum, T.b_max, T.b_range⟩) (fun _ _ _ _ _ _ us hl => match us, hl with | [_, _], _ => rfl) (fun _ _ _ _ _ _ us hl => match us, hl with | [_, _], _ => rfl)
  have F_law_generator : Fo P w K mg base "_law_generator" 2 ["_law_script", "_law_index"] (spGenerator K) := .mk' (qual := "_law_generator") (st := s_generator) Z21 (glo 21 _ rfl) (ok_generator Z21 ⟨T.b_int, T.b_len, T.b_sum, T.b_max, T.b_range⟩ Z20 (glo 20 _ rfl) (FunD.bindsN Z20 fun _ _ _ _ _ _ us hl => match us, hl with | [_, _], _ => rfl)) (fun _ _ _ _ _ _ us hl => match us, hl with | [_, _], _ => rfl) (fun _ _ _ _ _ _ us hl => match us, hl with | [_, _], _ => rfl)
  have F_law_yes : Fo P w K mg base "_law_yes" 1 ["_law_told", "_law_due"] cYes.sp := .mk' (qual := "_law_yes") (st := s_law_yes) Z22 (glo 22 _ rfl) (ok_law_yes Z22 T) (fun _ _ _ _ _ _ us hl => match us, hl with | [_, _], _ => rfl) (fun _ _ _ _ _ _ us hl => match us, hl with | [_, _], _ => rfl)
  have F_law_power : Fo P w K mg base "_law_power" 1 ["_law_number", "_law_times"] cPower.sp := .mk' (qual := "_law_power") (st := s_law_power) Z23 (glo 23 _ rfl) (ok_law_power Z23 T) (fun _ _ _ _ _ _ us hl => match us, hl with | [_, _], _ => rfl) (fun _ _ _ _ _ _ us hl => match us, hl with | [_, _], _ => rfl)
  have F_law_places : Fo P w K mg base "_law_places" 3 ["_law_generator_here", "_law_width", "_law_most"] cLPlaces.sp := .mk' (qual := "_law_places") (st := s_law_places) Z24 (glo 24 _ rfl) (ok_law_places Z24 T F_law_random F_law_power) (fun _ _ _ _ _ _ us hl => match us, hl with | [_, _, _], _ => rfl) (fun _ _ _ _ _ _ us hl => match us, hl with | [_, _, _], _ => rfl)
  have F_law_words : Fo P w K mg base "_law_words" 3 ["_law_generator_here", "_law_width", "_law_many"] cLWords.sp := .mk' (qual := "_law_words") (st := s_law_words) Z25 (glo 25 _ rfl) (ok_law_words Z25 T F_law_random F_law_power) (fun _ _ _ _ _ _ us hl => match us, hl with | [_, _, _], _ => rfl) (fun _ _ _ _ _ _ us hl => match us, hl with | [_, _, _], _ => rfl)
  have F_law_is_whole : Fo P w K mg base "_law_is_whole" 1 ["_law_value"] cWhole.sp := .mk' (qual := "_law_is_whole") (st := s_law_is_whole) Z26 (glo 26 _ rfl) (ok_law_is_whole Z26 T) (fun _ _ _ _ _ _ us hl => match us, hl with | [_], _ => rfl) (fun _ _ _ _ _ _ us hl => match us, hl with | [_], _ => rfl)
  have F_law_is_word : Fo P w K mg base "_law_is_word" 2 ["_law_width", "_law_value"] cFitsWord.sp := .mk' (qual := "_law_is_word") (st := s_law_is_word) Z27 (glo 27 _ rfl) (ok_law_is_word Z27 T F_law_is_whole F_law_power) (fun _ _ _ _ _ _ us hl => match us, hl with | [_, _], _ => rfl) (fun _ _ _ _ _ _ us hl => match us, hl with | [_, _], _ => rfl)
  have F_law_known : Fo P w K mg base "_law_known" 3 ["_law_generator_here", "_law_width", "_law_places_here"] cLKnown.sp := .mk' (qual := "_law_known") (st := s_law_known) Z28 (glo 28 _ rfl) (ok_law_known Z28 T F_law_random F_law_power) (fun _ _ _ _ _ _ us hl => match us, hl with | [_, _, _], _ => rfl) (fun _ _ _ _ _ _ us hl => match us, hl with | [_, _, _], _ => rfl)
  have F_law_are_places : Fo P w K mg base "_law_are_places" 3 ["_law_width", "_law_value"] cArePlaces.sp := .mk' (qual := "_law_are_places") (st := s_law_are_places) Z29 (glo 29 _ rfl) (ok_law_are_places Z29 T F_law_is_word) (fun _ _ _ _ _ _ us hl => match us, hl with | [_, _], _ => rfl) (fun _ _ _ _ _ _ us hl => match us, hl with | [_, _], _ => rfl)
  have F_law_are_known : Fo P w K mg base "_law_are_known" 3 ["_law_width", "_law_places_here", "_law_value"] cKnown.sp := .mk' (qual := "_law_are_known") (st := s_law_are_known) Z30 (glo 30 _ rfl) (ok_law_are_known Z30 T F_law_is_whole F_law_is_word) (fun _ _ _ _ _ _ us hl => match us, hl with | [_, _, _], _ => rfl) (fun _ _ _ _ _ _ us hl => match us, hl with | [_, _, _], _ => rfl)
  have F_law_odd : Fo P w K mg base "_law_odd" 2 ["_law_width"] cOdd.sp := .mk' (qual := "_law_odd") (st := s_law_odd) Z31 (glo 31 _ rfl) (ok_law_odd Z31 T F_law_power) (fun _ _ _ _ _ _ us hl => match us, hl with | [_], _ => rfl) (fun _ _ _ _ _ _ us hl => match us, hl with | [_], _ => rfl)
  have F_law_bent : Fo P w K mg base "_law_bent" 3 ["_law_generator_here", "_law_width", "_law_row"] cBent.sp := .mk' (qual := "_law_bent") (st := s_law_bent) Z32 (glo 32 _ rfl) (ok_law_bent Z32 T F_law_random F_law_power F_law_odd) (fun _ _ _ _ _ _ us hl => match us, hl with | [_, _, _], _ => rfl) (fun _ _ _ _ _ _ us hl => match us, hl with | [_, _, _], _ => rfl)
  have F_law_bent_known : Fo P w K mg base "_law_bent_known" 3 ["_law_generator_here", "_law_width", "_law_places_here", "_law_known_here"] cBentKnown.sp := .mk' (qual := "_law_bent_known") (st := s_law_bent_known) Z33 (glo 33 _ rfl) (ok_law_bent_known Z33 T F_law_random F_law_power F_law_odd) (fun _ _ _ _ _ _ us hl => match us, hl with | [_, _, _, _], _ => rfl) (fun _ _ _ _ _ _ us hl => match us, hl with | [_, _, _, _], _ => rfl)
  have F_law_right : FoG P w K mg base "_law_right" 8 ["_law_generator_here"] cRight.sp := .mk' (qual := "_law_right") (st := s_law_right) Z34 (glo 34 _ rfl) (ok_law_right Z34 T F_law_random F_law_places F_law_words F_law_known F_law_bent F_law_bent_known F_law_are_places F_law_are_known F_law_yes F_law_odd F_law_power F_law_is_word Fis_places Fis_words Fis_known Fis_word) (fun _ _ _ _ _ _ us hl => match us, hl with | [_], _ => rfl)
  exact ok_law Z35 T F_law_generator F_law_right F_law_is_whole F_law_yes Fis_width Fis_places Fis_words
end K01
open PySem PySem.W PySem.Calls PyProof.Rows
theorem PySem.Challenge.cw_anyplaces_k01_widths_words_and_places_holds : PySem.Challenge.rw_anyplaces_k01_widths_words_and_places.Holds := by
  w_on; o_law
  refine HandSHeadRun.head_any (r := OpenLaw.row PySem.Challenge.rw_anyplaces_k01_widths_words_and_places) (q := view (OpenLaw.row PySem.Challenge.rw_anyplaces_k01_widths_words_and_places).prog [44]) (H := K01.hk) (ob := K01.ob) (M := 8000) (loose := K01.loose) (d := HandSHeadRun.topDef (OpenLaw.row PySem.Challenge.rw_anyplaces_k01_widths_words_and_places).prog 44) (kwd := []) K01.ob_eq
    (by kernel_rfl) (fun s => by kernel_rfl) K01.run (by kernel_rfl) (by kernel_rfl) (by kernel_rfl) (by rfl) (by first | assumption | decide +kernel) (by decide +kernel) ⟨rfl, rfl, rfl, rfl, rfl, by decide +kernel⟩ ?hw ?hc
  case hw => w_witness2
  case hc =>
    refine AP.walk_G (l := PySem.Challenge.rw_anyplaces_k01_widths_words_and_places) (n := 63) (k := 9) (x := "_law_script") rfl (by decide) (by kernel_rfl) ⟨rfl, by decide, by decide⟩ ?F
    intro w mg fa h Y G hmg0
    obtain ⟨K, KX, c⟩ := Y
    have hmg : mg ("law" : PySem.Str) = some (.ref fa) := by
      have e : (HandSHeadRun.topDef (OpenLaw.row PySem.Challenge.rw_anyplaces_k01_widths_words_and_places).prog 44).name = ("law" : PySem.Str) := by kernel_rfl
      rw [← e]
      exact hmg0
    obtain ⟨fd, hb, hF⟩ := K01.facts (P := (PySem.Challenge.rw_anyplaces_k01_widths_words_and_places).prog) (w := w) KX G hmg c
    exact ⟨K, fd, AP.spLaw K, KX, hb, fun H a ns hl _ hS => ⟨a, ns, rfl, hS, fun _ => rfl⟩, hF⟩

