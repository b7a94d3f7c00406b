import PyProof.Rows.All
import Wide.All
import OpenK.AllK
import Wide.FinOn
import PyProof.EqAt
import PyProof.EqKinds
import PyProof.TupleCall
import PyProof.ReprRoads
import PyProof.ReprLen
import HandS.ForMost
import HandS.ForExc
import HandS.ExcInit
import HandS.ExcValue
import HandS.Defaults
import HandS.Wide
import HandS.WideBits
import HandS.Evl
import KE.KExcIs
import HandS.More
import HandS.SortInts
import HandS.IsInst
import HandS.Conv
import HandS.Zip
import HandS.Rev
import HandS.Style
import HandS.Flow
import HandS.Sort
import HandS.DictComp
import KE.GoesMore
import KE.GoesZip
import KE.GoesEnum
import HandS.Text
import PySem.Challenge.RW_anyplaces_k02_whole_words_of_polynomials
import Lean
import KE.KStateDown
import HandS.MakeKw
import HandS.Head0
import HandS.Head1
import HandS.Head2
import HandS.HeadEnd
import HandS.HeadHook1
import HandS.HeadHook2
set_option Elab.async false
set_option linter.all false
set_option maxRecDepth 100000
set_option maxHeartbeats 4000000
/-! Rules that the laws of anyplaces want beside the layer's own. -/
namespace AP
open PySem PySem.Spec PyProof.Rows L2

/-! ### a power of any size -/
def PowOk (i j : Int) : Prop := 0 ≤ j ∧ (Builtin.Int.intBits i : Int) * j ≤ 2 ^ 27
theorem op_powW {X : Cx} : OpR X (binaryOp .Pow) (rI PowOk fun i j => .int (i ^ j.toNat)) :=
  opI fun _ _ _ _ _ _ _ ok go => pow_int ok.1 ok.2 go

/-! ### a def that is called where no repr is under way -/
structure FnG (P : Program) (w : World) (K : PySem.W.Frag) (mg : Str → Option Value) (base : Heap) (CX : CXT)
    (k : Nat) (f : Addr) (fd : FuncData) (ps : List Str) (sp : Sp) : Prop where
  size : ∀ vs H Q E, sp vs H Q E → vs.length = ps.length
  goes : ∀ (A : Around) (outer : List Env) (s : Shared) (H : Hp) (args : Args) (us : List Value) (vs : List V) (Q : VK) (E : XK),
    A.guards = some [] → Room k A → Env0 P w K mg base A outer s H → BindsTo s fd args (ps.zip us) → Vals vs us →
      sp vs H Q E → codeAny (model P w) A (.call (.ref f) args) (CR CX outer P w H s Q E) s
theorem FnG.of {P : Program} {w : World} {K : PySem.W.Frag} {mg : Str → Option Value} {base : Heap} {CX : CXT} {k : Nat} {f : Addr} {fd : FuncData} {ps : List Str} {sp : Sp}
    (F : FnOk P w K mg base CX k f fd ps sp) : FnG P w K mg base CX k f fd ps sp :=
  ⟨F.len, fun A outer s H args us vs Q E _ r e b v h => F.run A outer s H args us vs Q E r e b v h⟩

theorem guards_deeper (A : Around) (env : Env) : (A.deeper env).guards = A.guards := rfl

section
variable {P : Program} {w : World} {K : PySem.W.Frag} {mg : Str → Option Value} {base : Heap}
/-- a def of the text as it stands behind the top, dvs its defaults -/
abbrev Df (K : PySem.W.Frag) (x qual : Str) (st : Stmt) (dvs : List V) (f : Addr) (fd : FuncData) : Prop :=
  FunD K x qual (defArgs st) (defBody st) (defScope st) dvs [] f fd
theorem Df.go {x qual : Str} {st : Stmt} {dvs : List V} {f : Addr} {fd : FuncData} {N ps : List Str} {k : Nat} {sp : Sp}
    (F : Df K x qual st dvs f fd) (S : FnScope N ps (defScope st)) (size : ∀ vs H Q E, sp vs H Q E → vs.length = ps.length)
    (body : ∀ (cdv : Value) (A : Around) (outer : List Env) (s : Shared) (H : Hp) (vs : List V) (Q : VK) (E : XK),
      Room k (A.deeper (envOfC qual (defScope st) s.heap.objs.size f cdv)) → sp vs H Q E →
        ∃ t, PSs (cxOf CX0 P w K mg base N qual (defScope st) f cdv A outer s H E).nox (defBody st) t ∧
          t { nx := fun _ H' => Q .non H', rt := Q } (start N vs) H) :
    FnOk P w K mg base CX0 (k + 1) f fd ps sp :=
  FunD.ok F S size fun cdv A outer s H vs Q E hr h => by
    obtain ⟨t, ht, hq⟩ := body cdv A outer s H vs Q E hr h
    exact ⟨t, ht.nox, hq⟩
theorem Df.goG {x qual : Str} {st : Stmt} {dvs : List V} {f : Addr} {fd : FuncData} {N ps : List Str} {k : Nat} {sp : Sp}
    (F : Df K x qual st dvs f fd) (S : FnScope N ps (defScope st)) (size : ∀ vs H Q E, sp vs H Q E → vs.length = ps.length)
    (body : ∀ (cdv : Value) (A : Around) (outer : List Env) (s : Shared) (H : Hp) (vs : List V) (Q : VK) (E : XK),
      (A.deeper (envOfC qual (defScope st) s.heap.objs.size f cdv)).guards = some [] →
      Room k (A.deeper (envOfC qual (defScope st) s.heap.objs.size f cdv)) → sp vs H Q E →
        ∃ t, PSs (cxOf CX0 P w K mg base N qual (defScope st) f cdv A outer s H E).nox (defBody st) t ∧
          t { nx := fun _ H' => Q .non H', rt := Q } (start N vs) H) :
    FnG P w K mg base CX0 (k + 1) f fd ps sp := by
  obtain ⟨oc, od, dV, kV, doc, pm, an, cdv, ct, osl, rfl, there, code, _, _⟩ := F.ex
  refine ⟨size, fun A outer s H args us vs Q E noG room env0 bind vals want => ?_⟩
  have many := size _ _ _ _ want
  have inK : K.In s.heap := env0.mod.kin.keeps fun b o e => (env0.bs b o e).1
  have lim : s.heap.NoLimit := env0.mod.nolimit.keeps fun b o e => (env0.bs b o e).1
  have kinds : ∀ y ∈ ps.zip us, (defScope st).names.lookup y.1 = some .local ∨
      ((defScope st).names.lookup y.1 = some .cell ∧
        ((cellsFrom (s.heap.objs.size + 1) (defScope st).names []).lookup y.1).isSome = true) := by
    rintro ⟨n, v⟩ hy
    rcases S.par n (List.of_mem_zip hy).1 with q | q
    · exact .inl q
    · exact .inr ⟨q, PySem.W.cellsFrom_some _ _ _ (.inl q)⟩
  refine codeAny_call_function room.depth (inK _ _ there) rfl S.co S.gen rfl
    (PySem.W.codeRec_of inK code) (bind _ _ _ _ ?_)
  refine wpAny_newFunctionEnv_cells S.kind kinds fun env eenv s1 call => ?_
  subst eenv
  refine ⟨lim.keeps call.toInCall.keep, codeAny_func ?_⟩
  obtain ⟨t, ht, hq⟩ := body cdv A outer s H vs Q E noG (room.deeper _) want
  have J := inv_start (CX := CX0) (E := E) S room.hd env0 many vals call
  refine wpAny_mono (ht.nox.run [] s1 (start N vs) H _ J hq) (fun fl s' hs => ?_) fun e s' hs => hs
  cases fl with
  | ret u =>
    obtain ⟨v, σ', H', I, rv, q⟩ := hs
    exact ⟨v, H', I.os, I.bare, I.base, I.hok, rv, q⟩
  | next =>
    obtain ⟨σ', H', I, q⟩ := hs
    exact ⟨V.non, H', I.os, I.bare, I.base, I.hok, rfl, q⟩
  | brk =>
    obtain ⟨_, _, _, q⟩ := hs
    exact q.elim
  | cont =>
    obtain ⟨_, _, _, q⟩ := hs
    exact q.elim
end

section
variable {X : Cx} {CX : CXT} {k : Nat} {f : Addr} {fd : FuncData} {ps : List Str} {sp : Sp} {dvs : List V} {ds : List Value} {E : XK} {x : Str} {p pos : Pos} {e : Expr} {es : List Expr} {t : TA}
theorem run_g {pins : List (Addr × Obj)} {σ : L2.St} {H : Hp} {s : Shared} {Q : VK} {us : List Value} {vs : List V}
    (F : FnG X.prog X.w X.K X.mg X.base CX k f fd ps sp) (ng : X.A.guards = some []) (hr : Room k X.A)
    (hb : Binds X.K fd ps ds) (hd : Vals dvs ds) (hx : Passes CX X E) (I : Inv X pins σ H s) (r : Vals vs us)
    (h : sp (vs ++ dvs) H Q E) : wpAny (model X.prog X.w) X.A (call (.ref f) us) (EP X pins σ Q) X.xe s := by
  have both : Vals (vs ++ dvs) (us ++ ds) := r.append hd
  have many : (us ++ ds).length = ps.length := both.length.symm.trans (F.size _ _ _ _ h)
  refine wpAny_call (codeAny_mono (F.goes X.A X.stack s H ⟨us, []⟩ (us ++ ds) (vs ++ dvs) Q E ng hr I.env0
    (hb s us I.kIn many) both h) fun res s' hq => ?_)
  cases res with
  | error er => exact hx pins σ H s er s' I hq
  | ok fl =>
    cases fl with
    | ret u => exact I.after hq
    | next => exact hq.elim
    | brk => exact hq.elim
    | cont => exact hq.elim
theorem pe_callG (F : FnG X.prog X.w X.K X.mg X.base CX k f fd ps sp) (ng : X.A.guards = some []) (hr : Room k X.A)
    (hg : Gl X x) (hm : X.mg x = some (.ref f)) (hk : PySem.W.keepIn X.K (.ref f) = true) (hb : Binds X.K fd ps ds)
    (hd : Vals dvs ds) (hx : Passes CX X E) (ha : PA X (e :: es) t) (hdb : (x == ("__debug__" : Str)) = false := by decide)
    (he : starEach (e :: es) X.env = (false, eval e X.env) :: starEach es X.env := by rfl)
    (hpl : (backTo pos (starEach es X.env)).any (·.1) = false := by rfl) :
    PE X (.Call (.Name x p) (e :: es) [] pos) (tCall sp dvs E t) := by
  refine ⟨fun pins s σ H Q I h => wpAny_Call_Name_kw (ld_glob I hg hm ?_ hdb)⟩
  exact PySem.W.callWith_K (h₀ := X.base) I.ok.mod.kin hk
    (thn (ha.run pos pins s σ H _ I h) fun us s1 ⟨vs, H1, I1, r, q⟩ => ⟨I1.kIn, run_g F ng hr hb hd hx I1 r q⟩) he hpl
end

/-! ### repr of data -/
section
variable {X : Cx} {pins : List (Addr × Obj)} {σ : L2.St} {H : Hp} {s : Shared}
/-- repr(x): the text of its data -/
def rRepr (K : PySem.W.Frag) : List V → Hp → VK → Prop := fun xs H Q => ∃ (v : V) (d : PyData), xs = [v] ∧ Dp K H v d ∧
  d.showable = true ∧ d.hasDict = false ∧ d.depth ≤ 60 ∧ d.shown.length ≤ sizeLine ∧ Q (.str d.shown) H
theorem call_reprD (ng : X.A.guards = some []) (hu : X.A.units + 64 < cLine) : CallR X (.builtin "repr") (rRepr X.K) := by
  intro pins s σ H xs us Q I r h
  obtain ⟨v, d, rfl, hd, hs, hn, hdep, hsz, q⟩ := h
  obtain ⟨u, rfl, ru⟩ := vals1 r
  obtain ⟨as, rd⟩ := Dp.reads I d v u hd ru
  cases hd with
  | non => cases ru; exact PySem.P.repr_of_none ⟨.str _, H, I.tok _, ⟨_, rfl⟩, q⟩
  | bl b =>
    cases ru
    exact PySem.P.repr_of_bool ⟨.str _, H, I.tok _, ⟨_, rfl⟩, q⟩
  | int i =>
    obtain ⟨t, rfl⟩ := ru
    exact PySem.P.repr_of_int (of_decide_eq_true hs) ⟨.str _, H, I.tok _, ⟨_, rfl⟩, q⟩
  | str z =>
    obtain ⟨t, rfl⟩ := ru
    exact PySem.P.repr_of_str ⟨.str _, H, I.tok _, ⟨_, rfl⟩, q⟩ hsz
  | lst a b =>
    cases ru
    exact repr_of_reads' rd hs (fun z => by rw [hn] at z; cases z) ng (by omega) (fun _ _ e => e)
      (fun h' t tk hk => ⟨.str _, H, I.kept (t' := tk) hk, ⟨t, rfl⟩, q⟩) hsz
  | tup a b =>
    cases ru
    exact repr_of_reads' rd hs (fun z => by rw [hn] at z; cases z) ng (by omega) (fun _ _ e => e)
      (fun h' t tk hk => ⟨.str _, H, I.kept (t' := tk) hk, ⟨t, rfl⟩, q⟩) hsz
/-- repr of a dict of numbers by a text -/
def oneD (z : Str) (n : Int) : PyData := .dict [(.str z, .int n)]
def rReprD : List V → Hp → VK → Prop := fun xs H Q => ∃ (a : Addr) (z : Str) (n : Int), xs = [.ref a] ∧ H a = some (.dK [(Sum.inr z, .int n)]) ∧
  (oneD z n).showable = true ∧ (oneD z n).shown.length ≤ sizeLine ∧ Q (.str (oneD z n).shown) H
theorem one_reads {a : Addr} {z : Str} {n : Int} (I : Inv X pins σ H s) (h : H a = some (.dK [(Sum.inr z, .int n)])) : Reads s.heap (.ref a) (oneD z n) [a] ∧ a ≠ sysModules := by
  obtain ⟨_, ns, vs, kv, o, es, ep, ho, hx, hd, _, hp, _⟩ := (show ObjOk X.prog X.w H s.heap a (.dK [(Sum.inr z, V.int n)]) from I.hok a _ h)
  refine ⟨?_, fun q => by rw [q] at ns; exact absurd ns (by decide)⟩
  cases kv with
  | @cons p q ps qs h1 h2 =>
    cases h2
    obtain ⟨k, u⟩ := q
    obtain ⟨e1, e2⟩ := h1
    obtain ⟨t, rfl⟩ := e2
    cases (show Sum.inr z = k from e1)
    generalize hl : es.toList = l at hp
    cases hp with
    | @cons e kv es' kvs' i1 i2 i3 =>
      cases i3
      have ik : keyIs (Sum.inr z) e.key = true := i1
      rcases keyIs_shape ik with ⟨i, t', q, _⟩ | ⟨z', t', q, ek⟩
      · cases q
      · cases q
        refine Reads.dict (as := []) (bs := []) ho hx.1 hd ?_ ?_
        · rw [hl]
          show ReadsAll s.heap [e.key] [PyData.str z] ([] ++ [])
          rw [ek]
          exact .cons (.str z t') .nil
        · rw [hl]
          show ReadsAll s.heap [e.val] [PyData.int n] ([] ++ [])
          rw [show e.val = Value.int n t from i2]
          exact .cons (.int n t) .nil
theorem call_reprO (ng : X.A.guards = some []) (hu : X.A.units + 64 < cLine) : CallR X (.builtin "repr") rReprD := by
  intro pins s σ H xs us Q I r h
  obtain ⟨a, z, n, rfl, hd, hs, hsz, q⟩ := h
  obtain ⟨u, rfl, ru⟩ := vals1 r
  cases ru
  obtain ⟨rd, ns⟩ := one_reads I hd
  exact repr_of_reads' rd hs (fun _ m => by cases m with | head => exact ns rfl | tail _ z => cases z) ng
    (by have e : (oneD z n).depth = 1 := by simp [oneD, PyData.depth, PyData.depthKv]
        omega) (fun _ _ e => e) (fun h' t tk hk => ⟨.str _, H, I.kept (t' := tk) hk, ⟨t, rfl⟩, q⟩) hsz
theorem CallR.or {f : Value} {r r' : List V → Hp → VK → Prop} (h : CallR X f r) (h' : CallR X f r') : CallR X f (fun xs H Q => r xs H Q ∨ r' xs H Q) := by
  intro pins s σ H xs us Q I rv hh
  rcases hh with hh | hh
  · exact h pins s σ H xs us Q I rv hh
  · exact h' pins s σ H xs us Q I rv hh
end

/-! ### the end of a law whose def is kept by FnG -/
section
variable {P : Program} {w : World} {K : PySem.W.Frag} {mg mb : Str → Option Value} {k : Nat} {fa a : Addr} {fd : FuncData} {x : Str} {sp : Sp} {s1 : Shared} {vs : List Value} {ns : List Int}
/-- what the law's call has to come to -/
def Good (s1 : Shared) : Result → Shared → Prop := fun r s' =>
  r = .ok (.ret (.bool true)) ∧ OldK s1.heap s'.heap ∧ s'.os = s1.os ∧ AllBare s'.gens
theorem law_from (KX : K.In s1.heap) (hns : s1.heap.Ns mainGlobals mg) (hb : s1.heap.Ns builtinsNs mb)
    (hbb : ∀ y : Str, y ≠ "__name__" → mb y = bootBuiltins y) (hlim : s1.heap.NoLimit) (hg : s1.gens = #[])
    (ha : s1.heap.get? a = some { cls := .type "list", data := .seq vs.toArray }) (hr : Room k callerA)
    (F : ∀ base : Heap, K.In base → base.Ns mainGlobals mg → FnG P w K mg base CX0 k fa fd [x] sp)
    (bind : ∀ (s : Shared) (u : Value), BindsTo s fd ⟨[u], []⟩ [(x, u)])
    (H : Hp) (only : Only H) (want : sp [.ref a] H (fun v _ => v = .bl true) fun _ _ _ => False) (hok : HOk P w H s1.heap)
    (alone : ∀ b u, H b = some u → b = a) (apart : ∀ u, H a = some u → K.lookup a = none) :
    codeAny (model P w) callerA (.call (.ref fa) ⟨[.ref a], []⟩) (Good s1) s1 := by
  -- a dict is not the script
  have dct : ∀ {b : Addr} {o : Obj} {es : Array DictEntry} {ep : Nat}, s1.heap.get? b = some o → o.data = .dict es ep → H b = none := by
    intro b o es ep e d
    cases q : H b with
    | none => rfl
    | some u =>
      cases alone b u q
      rw [ha] at e
      cases e
      cases (show Data.seq vs.toArray _ = Data.dict es ep from d)
  have nsB : ∀ {b : Addr} {m : Str → Option Value}, s1.heap.Ns b m → (hidT s1.heap H).Ns b m := by
    rintro b m ⟨o, es, ep, e, d, r⟩
    exact ⟨o, es, ep, hidT_get e (dct e d), d, r⟩
  have inB : K.In (hidT s1.heap H) := by
    intro b o e
    refine hidT_get (KX b o e) ?_
    cases q : H b with
    | none => rfl
    | some u =>
      cases alone b u q
      rw [apart u q] at e
      cases e
  have mod : Mod K mg (hidT s1.heap H) := by
    obtain ⟨mc, l1, l2⟩ := hlim
    exact ⟨inB, nsB hns, ⟨mb, nsB hb, hbb⟩, mc, nsB l1, l2⟩
  have env : Env0 P w K mg (hidT s1.heap H) callerA [] s1 H :=
    ⟨rfl, mod, fun b o e => of_hidT e, Nat.le_of_eq (hidT_size _ _), trivial, fun b hb => absurd (show b ∈ ([] : List Addr) from hb) (by simp), hok, .of_eq hg⟩
  have run := (F _ inB (nsB hns)).goes callerA [] s1 H ⟨[.ref a], []⟩ [.ref a] [.ref a] _ _ rfl hr env (bind s1 (.ref a)) (.cons rfl .nil) want
  refine codeAny_mono run fun r s' h => ?_
  cases r with
  | error e => exact False.elim h
  | ok fl =>
    cases fl with
    | next => exact False.elim h
    | brk => exact False.elim h
    | cont => exact False.elim h
    | ret u =>
      obtain ⟨v, H', os, bare, un, hok', rv, q⟩ := h
      cases (show v = V.bl true from q)
      obtain rfl : u = Value.bool true := rv
      refine ⟨rfl, OldK.of_keep fun b o e => ?_, os, bare⟩
      rcases only b with n | ⟨ob, xs, z⟩
      · exact un.keep b o e n (by intro m; exact absurd (show b ∈ ([] : List Addr) from m) (by simp)) (by simp)
      · have then_ := un.frzs b ob _ z
        obtain ⟨e1, _⟩ := hok b _ z
        obtain ⟨e2, _⟩ := hok' b _ then_
        rw [e] at e1
        cases e1
        exact e2
theorem law_callG (KX : K.In s1.heap) (hns : s1.heap.Ns mainGlobals mg) (hb : s1.heap.Ns builtinsNs mb)
    (hbb : ∀ y : Str, y ≠ "__name__" → mb y = bootBuiltins y) (hlim : s1.heap.NoLimit) (hg : s1.gens = #[])
    (ha : s1.heap.get? a = some { cls := .type "list", data := .seq vs.toArray }) (hi : IntsAre vs ns) (hl : ns.length ≤ sizeLine) (hr : Room k callerA)
    (F : ∀ base : Heap, K.In base → base.Ns mainGlobals mg → FnG P w K mg base CX0 k fa fd [x] sp)
    (bind : ∀ (s : Shared) (u : Value), BindsTo s fd ⟨[u], []⟩ [(x, u)])
    (want : ∀ H : Hp, Only H → SqL K H a (ns.map V.int) → sp [.ref a] H (fun v _ => v = .bl true) fun _ _ _ => False) :
    codeAny (model P w) callerA (.call (.ref fa) ⟨[.ref a], []⟩) (Good s1) s1 := by
  have rv := vals_ints hi
  have many := hi.length
  cases hk : K.lookup a with
  | some o =>
    have e := KX a o hk
    rw [ha] at e
    cases e
    have o0 : Only fun _ => none := fun _ => .inl rfl
    refine law_from KX hns hb hbb hlim hg ha hr F bind (fun _ => none) o0 (want _ o0 (.inr ?_)) (fun b u z => by cases (show (none : Option HO) = some u from z)) (fun b u z => by cases (show (none : Option HO) = some u from z)) (fun u z => by cases (show (none : Option HO) = some u from z))
    exact ⟨_, vs.toArray, _, hk, rfl, rfl, rfl, by rw [List.size_toArray, many]; exact hl, by simpa using rv⟩
  | none =>
    have o1 : Only fun b => if b = a then some (.frz { cls := .type "list", data := .seq vs.toArray } (.lst (ns.map V.int))) else none := by
      intro b
      by_cases h : b = a
      · exact .inr ⟨_, _, if_pos h⟩
      · exact .inl (if_neg h)
    refine law_from KX hns hb hbb hlim hg ha hr F bind _ o1 (want _ o1 (.inl (.inr ⟨{ cls := .type "list", data := .seq vs.toArray }, if_pos rfl⟩))) (fun b u z => ?_) (fun b u z => ?_) fun _ _ => hk
    · by_cases h : b = a
      · subst h
        cases (if_pos rfl).symm.trans z
        exact ⟨ha, by rw [List.length_map]; exact hl, vs, _, rv, ha⟩
      · cases (if_neg h).symm.trans z
    · by_cases h : b = a
      · exact h
      · cases (if_neg h).symm.trans z
end
theorem walk_G {l : PySem.W.OpenLaw} {n k : Nat} {q : Program} {loose : List Str} {XP : (Str → Option Value) → Heap → Prop} {YP : World → Heap → Prop} {d : DefRec} {x : Str}
    (hn : l.most = some n) (small : n ≤ sizeLine) (nod : d.params.defaults = []) (hr : Room k callerA)
    (F : ∀ (w : World) (mg : Str → Option Value) (fa : Addr) (h : Heap), YP w h → h.Ns mainGlobals mg → mg d.name = some (.ref fa) →
      ∃ (K : PySem.W.Frag) (fd : FuncData) (sp : Sp), K.In h ∧ (∀ (s : Shared) (u : Value), BindsTo s fd ⟨[u], []⟩ [(x, u)]) ∧
        (∀ (H : Hp) (a : Addr) (ns : List Int), ns.length ≤ n → Only H → SqL K H a (ns.map V.int) → sp [.ref a] H (fun v _ => v = .bl true) fun _ _ _ => False) ∧
        ∀ base : Heap, K.In base → base.Ns mainGlobals mg → FnG l.prog w K mg base CX0 k fa fd [x] sp) :
    PySem.W.WalkO q loose XP YP l.row.toRowW d [] (fun f vs => PySem.call f vs) := by
  refine Att.attach_call hn nod fun w s₀ s₁ mg mb fa o pm cd doc a vs ns G Y ho hd hcd hmg hobj hints hlen hg => ?_
  obtain ⟨K, fd, sp, KX, bind, want, FF⟩ := F w mg fa _ Y G.T.g hmg
  exact law_callG KX G.T.g G.T.b G.T.builtins G.T.nolimit hg hobj hints (Nat.le_trans hlen small) hr FF bind fun H hO hS => want H a ns hlen hO hS
end AP

set_option maxHeartbeats 4000000
/-! An error's class called with its one keyword. -/
namespace PySem
namespace APX
open Builtin PySem.HandSPX
section
variable {prog : Program} {w : World} {M : Model} {A : Around} {E : Value → Shared → Prop} {R : Result → Shared → Prop} {h : Heap} {g : Array GenState} {d : Drawn} {t : Nat} {os : OsState}
variable {nm q : Str} {C N : Addr} {bs bm bmB : List Value} {hdct : Bool} {sn : List Str} {sub : List Value} {ab : Bool} {col : Option Bool} {dd : Option Addr}
variable {k0 k1 k2 k3 k5 : Option Value} {B newId initId : String} {u : Value}
/-- the one keyword -/
abbrev kwV (u : Value) : List (Str × Value) := [(("value" : Str), u)]

theorem check_kw (F : ExcBaseFacts B newId initId bmB) (hT : ∀ Y : String, bm.contains (.type Y) = bmB.contains (.type Y)) {Q : Unit → Shared → Prop}
    (hC : h.get? C = some (excClassObj nm q C N bs bm hdct sn sub ab col dd k0 k1 k2 k3 k5 newId)) (go : Q () ⟨h, g, d, t, os⟩) :
    wpAny M A (checkBuiltinCall newId ⟨[.ref C], kwV u⟩) Q E ⟨h, g, d, t, os⟩ := by
  have star := F.noStar
  have inB : (Value.ref C :: bm).contains (.type B) = true := by rw [List.contains_cons, hT, F.hasB, Bool.or_true]
  simp only [checkBuiltinCall, F.newSplit, F.newKind, F.newRow]
  repeat (first
    | refine wpAny_loadPart_at hC ?_
    | (refine wpAny_isSubtype_exc hC ?_; rw [inB])
    | refine wpAny_staticBase_exc hC ?_
    | refine wpAny_madeBy_exc hC ?_
    | simp only [Bool.false_eq_true, bne_self_eq_false, if_false]
    | wp_step)
  exact go

theorem new_kw (F : ExcBaseFacts B newId initId bmB) (hT : ∀ Y : String, bm.contains (.type Y) = bmB.contains (.type Y))
    (hC : h.get? C = some (excClassObj nm q C N bs bm hdct sn sub ab col dd k0 k1 k2 k3 k5 newId))
    (go : R (.ok (.ret (.ref (h.objs.size + 1)))) ⟨(h.push (PySem.W.kdv_tup [])).push (excO C h.objs.size), g, d, t, os⟩) :
    codeAny (model prog w) A (.builtin newId ⟨[.ref C], kwV u⟩) R ⟨h, g, d, t, os⟩ := by
  have last := F.ends
  have inB : (Value.ref C :: bm).contains (.type B) = true := by rw [List.contains_cons, hT, F.hasB, Bool.or_true]
  have notA : (Value.ref C :: bm).contains (.type "AttributeError") = false := by rw [List.contains_cons, hT, F.noAttr] <;> rfl
  have notN : (Value.ref C :: bm).contains (.type "NameError") = false := by rw [List.contains_cons, hT, F.noName] <;> rfl
  refine codeAny_builtinAt F.entry ?_
  unfold Builtin.«BaseException.__new__»
  refine wpAt_bind ?_
  show wpAt _ _ _ (stack >>= _) _ _ (⟨h, g, d, t, os⟩ : Shared)
  refine wpAt_bind (wpAt_stack fun p under => wpAt_of_wpAny ?_)
  wp_walk
  refine wpAt_of_wpAny ?_
  rw [F.owner]
  repeat (first
    | with_reducible refine wpAny_madeHere_exc F.canon hC ?_
    | with_reducible refine wpAny_loadPart_at hC ?_
    | (with_reducible refine wpAny_isSubtype_exc hC ?_
       first | rw [inB] | rw [notA] | rw [notN])
    | wp_step)
  show R _ _
  rw [Heap.size_push]
  exact go

theorem type_call_kw (F : ExcBaseFacts B newId initId bmB) (hT : ∀ Y : String, bm.contains (.type Y) = bmB.contains (.type Y)) {fI : Addr} {Q : Fin → Shared → Prop}
    (hC : h.get? C = some (excClassObj nm q C N bs bm hdct sn sub ab col dd k0 k1 k2 k3 k5 newId))
    (init : W.Looks (model prog w) h (typeLookup (.ref C) "__init__") (some (.ref fI)))
    (bound : ∀ self, W.Looks (model prog w) h (bindSpecial (.ref fI) self) (.ref fI, [self]))
    (go : codeAny (model prog w) A (.call (.ref fI) ⟨[.ref (h.objs.size + 1)], kwV u⟩)
      (fun r s' => match r with | .ok (.ret v) => v = .none ∧ Q (.done (.ret (.ref (h.objs.size + 1)))) s' | .ok _ => False | .error e => E e s')
      ⟨(h.push (PySem.W.kdv_tup [])).push (excO C h.objs.size), g, d, t, os⟩) :
    wpAny (model prog w) A (Builtin.«type.__call__» ⟨[.ref C], kwV u⟩) Q E ⟨h, g, d, t, os⟩ := by
  repeat (first
    | with_reducible refine wpAny_loadPart_at hC ?_
    | with_reducible refine wpAny_madeBy_exc hC ?_
    | wp_step)
  refine codeAny_call_builtin_code (Code.quiet_builtin _ F.quiet) (check_kw F hT hC (new_kw F hT hC ?_))
  show wpAny _ _ _ _ _ _
  have kept : ∀ b o, h.get? b = some o → ((h.push (PySem.W.kdv_tup [])).push (excO C h.objs.size)).get? b = some o := fun b o e =>
    Heap.get?_push_of_some _ (Heap.get?_push_of_some _ e)
  have cls := kept _ _ hC
  have made : ((h.push (PySem.W.kdv_tup [])).push (excO C h.objs.size)).get? (h.objs.size + 1) = some (excO C h.objs.size) := by heap_get
  have own : (Value.ref C :: bm).contains (.ref C) = true := by simp
  have i1 := init.keeps kept
  have b1 := (bound (.ref (h.objs.size + 1))).keeps kept
  unfold isInstance
  repeat (first
    | with_reducible refine wpAny_loadPart_at made ?_
    | (with_reducible refine wpAny_isSubtype_exc cls ?_; rw [own])
    | wp_step)
  show wpAny _ _ (typeLookup (.ref C) _) _ _ _
  refine i1.at (wpAny_holding (wpAny_bind (b1.at (wpAny_bind (wpAny_call (codeAny_mono go fun r s' z => ?_))))))
  cases r with
  | error e => exact z
  | ok fl =>
    cases fl with
    | ret v =>
      obtain ⟨rfl, z⟩ := z
      first
        | exact wpAny_pure (wpAny_pure z)
        | (wp_walk; exact z)
    | next => exact z.elim
    | brk => exact z.elim
    | cont => exact z.elim

theorem call_kw (F : ExcBaseFacts B newId initId bmB) (hT : ∀ Y : String, bm.contains (.type Y) = bmB.contains (.type Y)) {fI : Addr}
    (hC : h.get? C = some (excClassObj nm q C N bs bm hdct sn sub ab col dd k0 k1 k2 k3 k5 newId))
    (init : W.Looks (model prog w) h (typeLookup (.ref C) "__init__") (some (.ref fI)))
    (bound : ∀ self, W.Looks (model prog w) h (bindSpecial (.ref fI) self) (.ref fI, [self]))
    (go : codeAny (model prog w) (A.under (.builtin "type.__call__" ⟨[.ref C], kwV u⟩)) (.call (.ref fI) ⟨[.ref (h.objs.size + 1)], kwV u⟩)
      (W.InitBack (h.objs.size + 1) R) ⟨(h.push (PySem.W.kdv_tup [])).push (excO C h.objs.size), g, d, t, os⟩) :
    codeAny (model prog w) A (.call (.ref C) ⟨[], kwV u⟩) R ⟨h, g, d, t, os⟩ := by
  have look := tc_lookup
  have bind := tc_bind (.ref C)
  have ty : (⟨h, g, d, t, os⟩ : Shared).TypeIs (.ref C) "type" := ⟨_, hC, rfl⟩
  refine codeAny_of_tree ?_
  show wpAny _ _ (callAny (.ref C) _) _ _ (⟨h, g, d, t, os⟩ : Shared)
  repeat (any_goals (first
    | assumption
    | with_reducible refine wpAny_loadPart_at hC ?_
    | wp_step))
  refine ⟨rfl, ?_⟩
  refine codeAny_call_builtin_at (Code.quiet_builtin _ (by decide +kernel)) entry_typeCall (wpAny_check_type_call_sub hC ?_)
  refine type_call_kw F hT hC init bound (codeAny_mono go fun r s' z => ?_)
  rcases r with e | (v | _ | _ | _) <;> exact z
end
end APX
end PySem

set_option maxHeartbeats 4000000
/-! Errors with an own __init__ as values: made, their kinds asked, their field read. -/
namespace AP
open PySem PySem.Spec PyProof.Rows L2
/-! ### C(..) as a value -/
/-- what of the text an error's class has: its own line, its __init__ at fI -/
structure ErrC (K : PySem.W.Frag) (C fI : Addr) : Prop where
  o : OexC K C
  iC : PySem.W.findIn K (.ref C) "__init__" = some (some (.ref fI))
  tI : PySem.W.typeIn K (.ref fI) = some (.type "function")
/-- the promise of an error's __init__: the field is set -/
def spErr (C : Addr) : Sp := fun vs H Q _ => ∃ (a : Addr) (v : V), vs = [.ref a, v] ∧ H a = some (exo a C none) ∧
  ∀ d, H d = none → d ≠ a → Q .non (upd (upd H d (exd d [("value", v)])) a (exo a C (some d)))
/-- at x an error of the class at C with this value -/
def IsErr (C : Addr) (v x : V) (H : Hp) : Prop := ∃ a d, x = .ref a ∧ H a = some (exo a C (some d)) ∧ H d = some (exd d [("value", v)])
theorem IsErr.ex {C : Addr} {v x : V} {H H' : Hp} (e : Evl.Ex H H') (h : IsErr C v x H) : IsErr C v x H' := by
  obtain ⟨a, d, q, h1, h2⟩ := h
  exact ⟨a, d, q, e _ _ h1, e _ _ h2⟩
section
variable {X : Cx} {C fI : Addr} {k : Nat} {fd : FuncData} {x : Str} {p pos : Pos} {e : Expr} {te : TE}
variable {pins : List (Addr × Obj)} {σ : L2.St} {H : Hp} {s s' : Shared} {Q : VK}
theorem err_back {R' : Result → Shared → Prop} {a : Addr} {E : XK} {r : Result} (I : Inv X pins σ H s)
    (q : CR CX0 X.stack X.prog X.w H s (fun y H2 => y = .non ∧ Q (.ref a) H2) E r s')
    (ok : EP X pins σ Q (.ref a) s' → R' (.ok (.ret (.ref a))) s') : W.InitBack a R' r s' := by
  cases r with
  | error er => exact q.elim
  | ok fl =>
    cases fl with
    | ret u =>
      obtain ⟨y, H', J, rv, ey, q3⟩ := I.after q
      subst ey
      exact ⟨rv, ok ⟨V.ref a, H', J, rfl, q3⟩⟩
    | next => exact q.elim
    | brk => exact q.elim
    | cont => exact q.elim
/-- what stands in the wish of __init__'s promise -/
theorem err_want {a : Addr} {v : V} {E : XK} (na : H a = none)
    (want : ∀ H2, Evl.Ex H H2 → IsErr C v (.ref a) H2 → Q (.ref a) H2) :
    spErr C [.ref a, v] (upd H a (exo a C none)) (fun y H2 => y = .non ∧ Q (.ref a) H2) E := by
  refine ⟨a, v, rfl, upd_same, fun d nd ne => ⟨rfl, want _ (fun b o hb => ?_) ⟨a, d, rfl, upd_same, ?_⟩⟩⟩
  · have b1 : b ≠ a := ne_of_none hb na
    have b2 : b ≠ d := by
      intro z
      subst z
      rw [upd_ne b1, hb] at nd
      cases nd
    rw [upd_ne b1, upd_ne b2, upd_ne b1]
    exact hb
  · rw [upd_ne ne]
    exact upd_same
theorem made_inv {us : List Value} (I : Inv X pins σ H s) :
    Inv X pins σ (upd H (s.heap.objs.size + 1) (exo (s.heap.objs.size + 1) C none))
      { s with heap := (s.heap.push (PySem.W.kdv_tup us)).push (HandSPX.excO C s.heap.objs.size) } := by
  have at_ : ((s.heap.push (PySem.W.kdv_tup us)).push (HandSPX.excO C s.heap.objs.size)).get? (s.heap.objs.size + 1) = some (HandSPX.excO C s.heap.objs.size) := by heap_get
  exact I.laid (t' := s.toks) (fun b o z => Heap.get?_push_of_some _ (Heap.get?_push_of_some _ z)) (Nat.le_succ _) (exo_ok at_)
theorem run_err {v : V} {y : Value} {us : List Value} (T : ErrC X.K C fI) (F : FnOk X.prog X.w X.K X.mg X.base CX0 k fI fd ["self", "value"] (spErr C))
    (hr : Room (k + 1) X.A) (I : Inv X pins σ H s) (ry : RelV v y) (small : us.length ≤ sizeLine)
    (bind : ∀ (a : Addr) (s' : Shared), X.K.In s'.heap → BindsTo s' fd ⟨.ref a :: us, []⟩ [("self", .ref a), ("value", y)])
    (want : ∀ a H2, H a = none → Evl.Ex H H2 → IsErr C v (.ref a) H2 → Q (.ref a) H2) :
    wpAny (model X.prog X.w) X.A (call (.ref C) us) (EP X pins σ Q) X.xe s := by
  obtain ⟨nm, q, N, bs, bm, sn, sub, ab, col, dd, k0, k1, k2, k3, k5, hC, hbm⟩ := T.o.cls
  have na : H (s.heap.objs.size + 1) = none := I.hok.fresh (Nat.le_succ _)
  have J := made_inv (C := C) (us := us) I
  obtain ⟨hp, g, dr, tk, os⟩ := s
  refine wpAny_call (HandSPX.call_own PySem.F.excBase_ValueError (fun Y => HandSPX.refsVE_contains Y bm hbm) (I.kIn _ _ hC) (PySem.W.looks_findIn I.kIn T.iC)
    (fun self => PySem.W.bind_fn I.kIn self T.tI) small (codeAny_mono (F.run _ X.stack _ _ ⟨Value.ref (hp.objs.size + 1) :: us, []⟩ [.ref (hp.objs.size + 1), y]
      [.ref (hp.objs.size + 1), v] _ E0 (hr.make C us []) (J.env0.make C us []) (bind _ _ J.kIn) (.cons rfl (.cons ry .nil))
      (err_want na fun H2 => want _ H2 na)) fun r s' z => ?_))
  exact err_back J z fun z => z
theorem run_errK {v : V} {y : Value} (T : ErrC X.K C fI) (F : FnOk X.prog X.w X.K X.mg X.base CX0 k fI fd ["self", "value"] (spErr C))
    (hr : Room (k + 1) X.A) (I : Inv X pins σ H s) (ry : RelV v y)
    (bind : ∀ (a : Addr) (s' : Shared), X.K.In s'.heap → BindsTo s' fd ⟨[.ref a], PySem.APX.kwV y⟩ [("self", .ref a), ("value", y)])
    (want : ∀ a H2, H a = none → Evl.Ex H H2 → IsErr C v (.ref a) H2 → Q (.ref a) H2) :
    wpAny (model X.prog X.w) X.A (call (.ref C) [] (PySem.APX.kwV y)) (EP X pins σ Q) X.xe s := by
  obtain ⟨nm, q, N, bs, bm, sn, sub, ab, col, dd, k0, k1, k2, k3, k5, hC, hbm⟩ := T.o.cls
  have na : H (s.heap.objs.size + 1) = none := I.hok.fresh (Nat.le_succ _)
  have J := made_inv (C := C) (us := []) I
  obtain ⟨hp, g, dr, tk, os⟩ := s
  refine wpAny_call (PySem.APX.call_kw PySem.F.excBase_ValueError (fun Y => HandSPX.refsVE_contains Y bm hbm) (I.kIn _ _ hC) (PySem.W.looks_findIn I.kIn T.iC)
    (fun self => PySem.W.bind_fn I.kIn self T.tI) (codeAny_mono (F.run _ X.stack _ _ ⟨[Value.ref (hp.objs.size + 1)], PySem.APX.kwV y⟩ [.ref (hp.objs.size + 1), y]
      [.ref (hp.objs.size + 1), v] _ E0 (hr.make C [] (PySem.APX.kwV y)) (J.env0.make C [] (PySem.APX.kwV y)) (bind _ _ J.kIn) (.cons rfl (.cons ry .nil))
      (err_want na fun H2 => want _ H2 na)) fun r s' z => ?_))
  exact err_back J z fun z => z
/-- C(e), C(value=e) -/
def tErr (C : Addr) (te : TE) : TE := fun σ H Q => te σ H fun v H1 => ∀ a H2, H1 a = none → Evl.Ex H1 H2 → IsErr C v (.ref a) H2 → Q (.ref a) H2
/-- how the arguments of an error's __init__ bind -/
structure ErrB (K : PySem.W.Frag) (fd : FuncData) : Prop where
  two : ∀ (a : Addr) (y : Value) (s' : Shared), K.In s'.heap → BindsTo s' fd ⟨[.ref a, y], []⟩ [("self", .ref a), ("value", y)]
  one : ∀ (a : Addr) (s' : Shared), K.In s'.heap → BindsTo s' fd ⟨[.ref a], []⟩ [("self", .ref a), ("value", .none)]
  kw : ∀ (a : Addr) (y : Value) (s' : Shared), K.In s'.heap → BindsTo s' fd ⟨[.ref a], PySem.APX.kwV y⟩ [("self", .ref a), ("value", y)]
theorem pe_err (T : ErrC X.K C fI) (b : ErrB X.K fd) (F : FnOk X.prog X.w X.K X.mg X.base CX0 k fI fd ["self", "value"] (spErr C)) (hr : Room (k + 1) X.A)
    (hg : Gl X x) (hm : X.mg x = some (.ref C)) (ha : PE X e te) (hdb : (x == ("__debug__" : Str)) = false := by decide)
    (he : starEach [e] X.env = (false, eval e X.env) :: starEach [] X.env := by rfl) (hpl : (backTo pos (starEach [] X.env)).any (·.1) = false := by rfl) :
    PE X (.Call (.Name x p) [e] [] pos) (tErr C te) := by
  refine ⟨fun pins s σ H Q I h => wpAny_Call_Name_kw (ld_glob I hg hm ?_ hdb)⟩
  have args : PA X [e] (tCons te tNil) := pa_cons ha pa_nil he
  refine PySem.W.callWith_K (h₀ := X.base) I.ok.mod.kin T.o.kC (thn (args.run pos pins s σ H (fun vs H1 => ∃ v, vs = [v] ∧ ∀ a H2, H1 a = none → Evl.Ex H1 H2 → IsErr C v (.ref a) H2 → Q (.ref a) H2) I ?_) fun us s1 hs => ?_) he hpl
  · have h' : te σ H fun v H1 => ∀ a H2, H1 a = none → Evl.Ex H1 H2 → IsErr C v (.ref a) H2 → Q (.ref a) H2 := h
    show te σ H fun v H1 => ∃ w, [v] = [w] ∧ ∀ a H2, H1 a = none → Evl.Ex H1 H2 → IsErr C w (.ref a) H2 → Q (.ref a) H2
    have mono : (fun (v : V) (H1 : Hp) => ∀ a H2, H1 a = none → Evl.Ex H1 H2 → IsErr C v (.ref a) H2 → Q (.ref a) H2) = fun v H1 => ∃ w, [v] = [w] ∧ ∀ a H2, H1 a = none → Evl.Ex H1 H2 → IsErr C w (.ref a) H2 → Q (.ref a) H2 := by
      funext v H1
      refine propext ⟨fun z => ⟨v, rfl, z⟩, fun ⟨w, q, z⟩ => ?_⟩
      cases q
      exact z
    rw [← mono]
    exact h'
  · obtain ⟨vs, H1, I1, r, v, ev, q⟩ := hs
    subst ev
    obtain ⟨y, rfl, ry⟩ := vals1 r
    exact ⟨I1.kIn, run_err (us := [y]) T F hr I1 ry (by show 1 ≤ sizeLine; decide) (fun a s' i => b.two a y s' i) q⟩
theorem pe_err0 (T : ErrC X.K C fI) (b : ErrB X.K fd) (F : FnOk X.prog X.w X.K X.mg X.base CX0 k fI fd ["self", "value"] (spErr C)) (hr : Room (k + 1) X.A)
    (hg : Gl X x) (hm : X.mg x = some (.ref C)) (hdb : (x == ("__debug__" : Str)) = false := by decide) :
    PE X (.Call (.Name x p) [] [] pos) (tErr C (tC .non)) := by
  refine ⟨fun pins s σ H Q I h => wpAny_Call_Name_kw (ld_glob I hg hm ?_ hdb)⟩
  exact PySem.W.callWith_K0 I.kIn T.o.kC (run_err (us := []) (v := .non) (y := .none) T F hr I rfl (by show 0 ≤ sizeLine; decide) (fun a s' i => b.one a s' i) h)
theorem pe_errK {kpos : Pos} (T : ErrC X.K C fI) (b : ErrB X.K fd) (F : FnOk X.prog X.w X.K X.mg X.base CX0 k fI fd ["self", "value"] (spErr C)) (hr : Room (k + 1) X.A)
    (hg : Gl X x) (hm : X.mg x = some (.ref C)) (ha : PE X e te) (hdb : (x == ("__debug__" : Str)) = false := by decide)
    (hall : (backToKw pos (keywordEach [⟨some "value", e, kpos⟩] X.env)).all (·.1.isSome) = true := by rfl) (hks : (backToKw pos (keywordEach [⟨some "value", e, kpos⟩] X.env)).filterMap (·.1) = (["value"] : List Str) := by rfl) :
    PE X (.Call (.Name x p) [] [⟨some "value", e, kpos⟩] pos) (tErr C te) := by
  refine ⟨fun pins s σ H Q I h => wpAny_Call_Name_kw (ld_glob I hg hm ?_ hdb)⟩
  have kws : PK X [⟨some "value", e, kpos⟩] (tCons te tNil) := pk_cons ha pk_nil
  refine PySem.W.callWith_KW0 (h₀ := X.base) I.ok.mod.kin T.o.kC hall (thn (kws.run pos pins s σ H (fun vs H1 => ∃ v, vs = [v] ∧ ∀ a H2, H1 a = none → Evl.Ex H1 H2 → IsErr C v (.ref a) H2 → Q (.ref a) H2) I ?_) fun us s1 hs => ?_)
  · have h' : te σ H fun v H1 => ∀ a H2, H1 a = none → Evl.Ex H1 H2 → IsErr C v (.ref a) H2 → Q (.ref a) H2 := h
    show te σ H fun v H1 => ∃ w, [v] = [w] ∧ ∀ a H2, H1 a = none → Evl.Ex H1 H2 → IsErr C w (.ref a) H2 → Q (.ref a) H2
    have mono : (fun (v : V) (H1 : Hp) => ∀ a H2, H1 a = none → Evl.Ex H1 H2 → IsErr C v (.ref a) H2 → Q (.ref a) H2) = fun v H1 => ∃ w, [v] = [w] ∧ ∀ a H2, H1 a = none → Evl.Ex H1 H2 → IsErr C w (.ref a) H2 → Q (.ref a) H2 := by
      funext v H1
      refine propext ⟨fun z => ⟨v, rfl, z⟩, fun ⟨w, q, z⟩ => ?_⟩
      cases q
      exact z
    rw [← mono]
    exact h'
  · obtain ⟨vs, H1, I1, r, v, ev, q⟩ := hs
    subst ev
    obtain ⟨y, rfl, ry⟩ := vals1 r
    refine ⟨I1.kIn, ?_⟩
    rw [hks]
    exact run_errK T F hr I1 ry (fun a s' i => b.kw a y s' i) q
/-! ### the __init__ -/
/-- D.__init__(self, ..), D an own class whose __init__ is ValueError's -/
structure BaseI (K : PySem.W.Frag) (D : Addr) : Prop where
  rd : PySem.W.readsIn K D (.type "type") = true
  ga : PySem.W.specialIn K (.ref D) "__getattribute__" = some (some (.builtin "type.__getattribute__"))
  at_ : PySem.W.findCls K (.ref D) (.type "type") "__init__" = some (.val (.builtin "ValueError.__init__"))
theorem pe_ceinit {p1 p2 : Pos} {D : Addr} {es : List Expr} {ta : TA} {pl : Sem Bool} (hg : Gl X x) (hm : X.mg x = some (.ref D)) (B : BaseI X.K D) (ha : PA X (e :: es) ta)
    (hdb : (x == ("__debug__" : Str)) = false := by decide)
    (hc : eval (.Call (.Attribute (.Name x p1) "__init__" p2) (e :: es) [] pos) X.env = (do
      let ov ← eval (.Name x p1) X.env
      standAt p2.atName
      let (f, first) ← holding [ov] (getMethod ov "__init__" pl)
      callWith pos f first (backTo pos (starEach (e :: es) X.env)) (backToKw pos (keywordEach [] X.env))) := by rfl)
    (he : starEach (e :: es) X.env = (false, eval e X.env) :: starEach es X.env := by rfl) (hpl : (backTo pos (starEach es X.env)).any (·.1) = false := by rfl) :
    PE X (.Call (.Attribute (.Name x p1) "__init__" p2) (e :: es) [] pos) (tVeI X.K ta) := by
  refine ⟨fun pins s σ H Q I h => PySem.W.methodCall_KW (ld_glob I hg hm ?_ hdb) hc⟩
  refine PySem.W.method_cls I.kIn B.ga (PySem.W.cls_value I.kIn B.rd B.at_ (by decide +kernel) ?_)
  show wpAny _ _ (callWith pos (Value.builtin "ValueError.__init__") [] (backTo pos (starEach (e :: es) X.env)) []) _ _ _
  refine PyProof.Rows.callWith_method1 (thn (ha.run pos pins _ σ H _ (I.tok _) h) fun us s1 hs => ?_) he hpl
  obtain ⟨vs, H1, I1, r1, a, C, ws, rfl, many, T, ea, q⟩ := hs
  cases r1 with
  | @cons _ u0 _ ur ra rw' =>
    obtain rfl : u0 = Value.ref a := ra
    have small : ur.length ≤ sizeLine := by
      rw [← Paired.length rw', sizeLine_eq]
      omega
    exact oinit_ok T I1 ea small fun s' J => ⟨.non, H1, J, rfl, q⟩
/-! ### isinstance, the field -/
/-- what isinstance and reads of fields want of an error's class -/
structure ErrK (K : PySem.W.Frag) (C : Addr) : Prop where
  cl : (PySem.W.clsIn K C).isSome = true
  ga : PySem.W.findIn K (.ref C) "__getattribute__" = some (some (.builtin "BaseException.__getattribute__"))
  gt : PySem.W.findIn K (.ref C) "__getattr__" = some none
  sub : PySem.W.subIn K (.ref C) (.type "BaseException") = some true
  ha : PySem.W.findIn K (.ref C) "__class__" = some (some (.builtin "object.__class__"))
  hn : PySem.W.specialIn K (.builtin "object.__class__") "__get__" = some (some (.builtin "getset_descriptor.__get__"))
  tk : PySem.W.takesIn K (.builtin "object.__class__") = some true
  hm : PySem.W.mroIn K C (.type "object") = some true
/-- isinstance(x, c), x an error of the class at C -/
def rIsErr (K : PySem.W.Frag) : List V → Hp → VK → Prop := fun xs H Q => ∃ (a C : Addr) (c : V) (cv : Value) (b : Bool), xs = [.ref a, c] ∧ ErrK K C ∧
  ((∃ d fs, H a = some (exo a C (some d)) ∧ H d = some (exd d fs)) ∨ H a = some (ExO (.ref C) a)) ∧ (∀ u, RelV c u → u = cv) ∧ PySem.W.kitOne K (.ref C) cv = some b ∧ Q (.bl b) H
theorem call_isErr : CallR X (.builtin "isinstance") (rIsErr X.K) := by
  intro pins s σ H xs us Q I r h
  obtain ⟨a, C, c, cv, b, rfl, G, at_, hcv, e, q⟩ := h
  obtain ⟨u1, u2, rfl, r1, r2⟩ := vals2 r
  cases r1
  cases hcv _ r2
  have fin : ∀ tk, EP X pins σ Q (.bool b) { s with toks := tk } := fun tk => ⟨.bl b, H, I.tok tk, rfl, q⟩
  rcases at_ with ⟨d, fs, h1, h2⟩ | h1
  · obtain ⟨t1, ho⟩ := exo_at I.hok h1
    obtain ⟨mA, hns, rel⟩ := exd_at I.hok h2
    obtain ⟨oD, _, _, hoD, _, _⟩ := hns.count (within_of rel)
    exact PySem.W.kia_one (PySem.W.kitx_exc (od := some oD) G.cl G.ga G.gt G.sub G.ha G.hn G.tk G.hm) I.kIn ⟨ho, rfl, rfl, hoD⟩ e (fun z => nomatch z) fin
  · have ob : ObjOk X.prog X.w H s.heap a (ExO (.ref C) a) := I.hok a _ h1
    obtain ⟨⟨oe, vs, ho, hz, hd, _⟩, _, _⟩ := ob
    obtain ⟨oc, odd, oda, osl⟩ := oe
    obtain ⟨z1, z2⟩ := hz
    dsimp only at z1 z2 hd
    subst z1 z2 hd
    exact PySem.W.kia_one (PySem.W.kitx_exc (od := none) G.cl G.ga G.gt G.sub G.ha G.hn G.tk G.hm) I.kIn ⟨ho, rfl, rfl, trivial⟩ e (fun z => nomatch z) fin
/-- x.f, x an error of an own class that has its dict -/
def tErrF (K : PySem.W.Frag) (f : Str) (te : TE) : TE := fun σ H Q => te σ H fun x H1 => ∃ (a C d : Addr) (fs : List (Str × V)) (v : V), x = .ref a ∧ ErrK K C ∧ PySem.W.hasDictIn K C = true ∧
  PySem.W.findIn K (.ref C) f = some none ∧ H1 a = some (exo a C (some d)) ∧ H1 d = some (exd d fs) ∧ fs.lookup f = some v ∧ Q v H1
theorem pe_errF {f : Str} (he : PE X e te) (hb : attributeBase e f X.env (eval e X.env) = eval e X.env := by rfl) :
    PE X (.Attribute e f pos) (tErrF X.K f te) := by
  refine ⟨fun pins s σ H Q I h => attr_of hb (thn (he.run pins s σ H _ I h) fun u s1 hh => ?_)⟩
  obtain ⟨x, H1, I1, rx, a, C, d, fs, v, rfl, G, dict, no, h1, h2, l, q⟩ := hh
  cases rx
  obtain ⟨t1, ho⟩ := exo_at I1.hok h1
  obtain ⟨mA, hns, rel⟩ := exd_at I1.hok h2
  obtain ⟨od, hod, look⟩ := lookIn_ns hns
  obtain ⟨y, hy, ry⟩ := RelO.some_of (v := v) (o := mA f) (by rw [← l]; exact rel f)
  exact HandSPX.exc_get I1.kIn (od := some od) ⟨ho, rfl, rfl, hod⟩ G.ga G.gt G.sub (PySem.W.findObj_own dict no rfl (by rw [look, hy])) (handed_of ry)
    ⟨v, H1, I1.tok _, ry, q⟩
end
end AP
/-! ### the promises of the draws -/
namespace AP
open PySem PySem.Spec PyProof.Rows L2
theorem rest_of (x : Int) {n : Int} (h : 0 < n) : ∃ r, x % n = r ∧ 0 ≤ r ∧ r < n :=
  ⟨x % n, rfl, Int.emod_nonneg _ (by omega), Int.emod_lt_of_pos _ h⟩
theorem bits_small {b : Int} (h : 0 < b) (hb : b.natAbs < 2 ^ 8999) : (Builtin.Int.intBits b : Int) ≤ 8999 := by
  have := PyProof.Rows.intBits_le hb
  omega
theorem cut_ints (ns : List Int) (lo hi : Option Int) : ∃ ms : List Int, cutV (ns.map V.int) lo hi = ms.map V.int := by
  unfold cutV
  exact ⟨_, by rw [← List.map_drop, ← List.map_take]⟩
theorem pow_a : PowOk 10 18 := ⟨by decide, by decide +kernel⟩
theorem pow_b : PowOk 10 60 := ⟨by decide, by decide +kernel⟩
theorem pow_c : PowOk (10 ^ (60 : Int).toNat) 10 := ⟨by decide, by decide +kernel⟩
theorem pow_d : (0 : Int) < (10 ^ (60 : Int).toNat) ^ (10 : Int).toNat := by decide +kernel
/-- some number below 2 ** 31 -/
def spHash : Sp := fun vs H Q _ => ∃ s i : Int, vs = [.int s, .int i] ∧ 0 ≤ i ∧ i < 2 ^ 60 ∧ ∀ n : Int, 0 ≤ n → n < 2147483648 → Q (.int n) H
/-- a generator of draws: the digits left, the seed, how many were hashed -/
def GenAt (H : Hp) (g : Addr) (x y z : Int) : Prop := H g = some (.lst [.int x, .int y, .int z])
/-- a number below the bound; nothing changes but the generator -/
def spRandom : Sp := fun vs H Q _ => ∃ (g : Addr) (b x y z : Int), vs = [.ref g, .int b] ∧
  (H g = some (.lst [.int x, .int y, .int z]) ∧ 0 ≤ x ∧ 0 ≤ y ∧ 0 ≤ z ∧ z < 2 ^ 50) ∧ 0 < b ∧ b.natAbs < 2 ^ 8999 ∧
  ∀ (n x' z' : Int) (H' : Hp), 0 ≤ n → n < b → (H' g = some (.lst [.int x', .int y, .int z']) ∧ 0 ≤ x' ∧ 0 ≤ y ∧ 0 ≤ z' ∧ z' ≤ z + 300) →
    (∀ a, a ≠ g → H' a = H a) → z ≤ z' → Q (.int n) H'
/-- some number -/
def spCellA (K : PySem.W.Frag) : Sp := fun vs H Q _ => ∃ (a : Addr) (ns : List Int) (i : Nat), vs = [.ref a, .int i] ∧ SqL K H a (ns.map V.int) ∧
  ∀ (n : Int) (H' : Hp), Evl.Ex H H' → Q (.int n) H'
/-- a new generator -/
def spGenerator (K : PySem.W.Frag) : Sp := fun vs H Q _ => ∃ (a : Addr) (ns : List Int) (i : Nat), vs = [.ref a, .int i] ∧ SqL K H a (ns.map V.int) ∧ i ≤ 1000 ∧
  ∀ (p : Addr) (H' : Hp), H p = none → Evl.Ex H H' → (∃ x y z : Int, H' p = some (.lst [.int x, .int y, .int z]) ∧ 0 ≤ x ∧ (0 ≤ y ∧ y < 2147483648) ∧ 0 ≤ z ∧ z ≤ 1000000) → Q (.ref p) H'
end AP

set_option maxHeartbeats 4000000
/-! What evaluates to something of which a thing is told. -/
namespace AP
open PySem PySem.Spec PyProof.Rows L2 Evl
abbrev VP := V → Hp → Prop
/-- what stays when objects come beside -/
def Stays (P : VP) : Prop := ∀ x H H', Ex H H' → P x H → P x H'
/-- the values are told one by one -/
inductive Alls (H : Hp) : List VP → List V → Prop
  | nil : Alls H [] []
  | cons {P : VP} {Ps : List VP} {x : V} {xs : List V} : Stays P → P x H → Alls H Ps xs → Alls H (P :: Ps) (x :: xs)
theorem Alls.ex {H H' : Hp} (e : Ex H H') : ∀ {Ps : List VP} {xs : List V}, Alls H Ps xs → Alls H' Ps xs
  | _, _, .nil => .nil
  | _, _, .cons st h r => .cons st (st _ _ _ e h) (Alls.ex e r)
theorem Alls.app {H : Hp} : ∀ {Ps Qs : List VP} {xs ys : List V}, Alls H Ps xs → Alls H Qs ys → Alls H (Ps ++ Qs) (xs ++ ys)
  | _, _, _, _, .nil, h => h
  | _, _, _, _, .cons st h r, k => .cons st h (Alls.app r k)
theorem Alls.len {H : Hp} : ∀ {Ps : List VP} {xs : List V}, Alls H Ps xs → xs.length = Ps.length
  | _, _, .nil => rfl
  | _, _, .cons _ _ r => congrArg Nat.succ (Alls.len r)
theorem Alls.get {H : Hp} : ∀ {Ps : List VP} {xs : List V}, Alls H Ps xs → ∀ {i : Nat} {x : V}, xs[i]? = some x → ∃ P, Ps[i]? = some P ∧ P x H
  | _, _, .nil, _, _, h => by cases h
  | _, _, .cons _ h r, 0, _, e => by cases e; exact ⟨_, rfl, h⟩
  | _, _, .cons _ h r, i + 1, _, e => Alls.get r (i := i) e

def Evp (te : TE) (σ : L2.St) (H : Hp) (P : VP) : Prop := ∀ H1, Ex H H1 → ∀ Q : VK, (∀ x H2, Ex H1 H2 → P x H2 → Q x H2) → te σ H1 Q
/-- a new list of such values -/
def Elp (te : TE) (σ : L2.St) (H : Hp) (Ps : List VP) : Prop := ∀ H1, Ex H H1 → ∀ Q : VK,
  (∀ p xs H2, H1 p = none → Ex H1 H2 → H2 p = some (.lst xs) → Alls H2 Ps xs → Q (.ref p) H2) → te σ H1 Q
def EvpA (ta : TA) (σ : L2.St) (H : Hp) (Ps : List VP) : Prop := ∀ H1, Ex H H1 → ∀ Q : List V → Hp → Prop, (∀ xs H2, Ex H1 H2 → Alls H2 Ps xs → Q xs H2) → ta σ H1 Q
section
variable {K : PySem.W.Frag} {σ : L2.St} {H H' : Hp} {ta tb te : TE} {P : VP} {Ps Qs : List VP} {v : V} {tr : TA} {D : Ends} {tz : TS}
theorem Evp.of (h : Ev te σ H v) : Evp te σ H fun x _ => x = v := fun H1 e Q q => h H1 e Q fun H2 e2 => q v H2 e2 rfl
theorem evpA_nil : EvpA tNil σ H [] := fun H1 _ Q q => q [] H1 (Ex.refl H1) .nil
theorem evpA_cons (h : Evp te σ H P) (hr : EvpA tr σ H Ps) (st : Stays P) : EvpA (tCons te tr) σ H (P :: Ps) := fun H1 e Q q =>
  h H1 e _ fun x H2 e2 hx => hr H2 (e.trans e2) _ fun xs H3 e3 hs => q _ H3 (e2.trans e3) (.cons st (st _ _ _ e3 hx) hs)
theorem elp_lst (h : EvpA tr σ H Ps) (small : Ps.length ≤ 100000) : Elp (tLst tr) σ H Ps := fun H1 e Q q =>
  h H1 e _ fun xs H2 e2 hs => ⟨sz_of (by rw [hs.len]; exact small), fun p np =>
    q p xs _ (fresh_back e2 np) (e2.trans (Ex.new np)) upd_same (hs.ex (Ex.new np))⟩
/-- a list and a new list, joined -/
theorem elp_cat {l : Addr} {xs : List V} (hl : H l = some (.lst xs)) (hs : Alls H Ps xs) (ha : Ev ta σ H (.ref l)) (hb : Elp tb σ H Qs)
    (small : Ps.length + Qs.length ≤ 100000) : Elp (tOp rCat ta tb) σ H (Ps ++ Qs) := fun H1 e Q q =>
  ha H1 e _ fun H2 e2 => hb H2 (e.trans e2) _ fun p ys H3 np e3 hp hy => by
    have ex := (e.trans e2).trans e3
    refine ⟨l, p, xs, ys, rfl, rfl, ex _ _ hl, hp, sz_of (by rw [hs.len, hy.len]; exact small), fun r nr => ?_⟩
    refine q r _ _ (fresh_back (e2.trans e3) nr) ((e2.trans e3).trans (Ex.new nr)) upd_same ?_
    exact ((hs.ex ex).app hy).ex (Ex.new nr)
theorem q_asgLp {i : Nat} (h : Elp te σ H Ps) (k : ∀ p xs H1, H p = none → Ex H H1 → H1 p = some (.lst xs) → Alls H1 Ps xs → tz D (σ.set i (some (.ref p))) H1) :
    tSeq (tAsg te (gName i)) tz D σ H := h H (Ex.refl H) _ fun p xs H1 np e hp hs => k p xs H1 np e hp hs
theorem s_retLp (h : Elp te σ H Ps) (k : ∀ p xs H1, H p = none → Ex H H1 → H1 p = some (.lst xs) → Alls H1 Ps xs → D.rt (.ref p) H1) : tRet te D σ H :=
  h H (Ex.refl H) _ fun p xs H1 np e hp hs => k p xs H1 np e hp hs
/-- an error made of a value -/
theorem ep_err {C : Addr} (h : Ev te σ H v) : Evp (tErr C te) σ H (IsErr C v) := fun H1 e Q q =>
  h H1 e _ fun H2 e2 a H3 na e3 k => q (.ref a) H3 (e2.trans e3) k
theorem stays_err {C : Addr} : Stays (IsErr C v) := fun _ _ _ e h => h.ex e
/-- a list and a new list of known values, joined -/
theorem el_cat {l : Addr} {xs ys : List V} (hl : H l = some (.lst xs)) (ha : Ev ta σ H (.ref l)) (hb : EvL tb σ H ys) (small : xs.length + ys.length ≤ 100000) :
    EvL (tOp rCat ta tb) σ H (xs ++ ys) := fun H1 e Q q =>
  ha H1 e _ fun H2 e2 => hb H2 (e.trans e2) _ fun p H3 np e3 hp => by
    have ex := (e.trans e2).trans e3
    refine ⟨l, p, xs, ys, rfl, rfl, ex _ _ hl, hp, sz_of small, fun r nr => ?_⟩
    exact q r _ (fresh_back (e2.trans e3) nr) ((e2.trans e3).trans (Ex.new nr)) upd_same
/-! ### isinstance, fields, equality, repr, as what evaluates -/
/-- at a an error of the class at C, whatever it carries -/
def SomeErr (C a : Addr) (H : Hp) : Prop := (∃ d fs, H a = some (exo a C (some d)) ∧ H d = some (exd d fs)) ∨ H a = some (ExO (.ref C) a)
theorem SomeErr.ex {C a : Addr} (e : Ex H H') (h : SomeErr C a H) : SomeErr C a H' := by
  rcases h with ⟨d, fs, h1, h2⟩ | h
  · exact .inl ⟨d, fs, e _ _ h1, e _ _ h2⟩
  · exact .inr (e _ _ h)
theorem rc_isErr {a C : Addr} {c : V} {cv : Value} {b : Bool} (G : ErrK K C) (h : SomeErr C a H) (hc : ∀ u, RelV c u → u = cv)
    (k : PySem.W.kitOne K (.ref C) cv = some b) : RC (rIsErr K) [.ref a, c] H (.bl b) := fun H1 e Q q =>
  ⟨a, C, c, cv, b, rfl, G, h.ex e, hc, k, q H1 (Ex.refl H1)⟩
theorem ev_isErr {a C : Addr} {c : V} {cv : Value} {b : Bool} (G : ErrK K C) (h : SomeErr C a H) (hc : ∀ u, RelV c u → u = cv)
    (k : PySem.W.kitOne K (.ref C) cv = some b) (h1 : Ev ta σ H (.ref a)) (h2 : Ev tb σ H c) : Ev (tCB (rIsErr K) (tCons ta (tCons tb tNil))) σ H (.bl b) :=
  ev_cb (ea_cons h1 (ea_cons h2 ea_nil)) (rc_isErr G h hc k)
theorem ev_errF {a C d : Addr} {f : Str} {fs : List (Str × V)} (G : ErrK K C) (dict : PySem.W.hasDictIn K C = true) (no : PySem.W.findIn K (.ref C) f = some none)
    (h1 : H a = some (exo a C (some d))) (h2 : H d = some (exd d fs)) (l : fs.lookup f = some v) (h : Ev te σ H (.ref a)) : Ev (tErrF K f te) σ H v := fun H1 e Q q =>
  h H1 e _ fun H2 e2 => ⟨a, C, d, fs, v, rfl, G, dict, no, (e.trans e2) _ _ h1, (e.trans e2) _ _ h2, l, q H2 e2⟩
end
/-- a value that shows and that is equal to itself -/
def Fine (K : PySem.W.Frag) (v : V) (H : Hp) : Prop :=
  (∃ d, Dp K H v d ∧ SeqAt.shaped d = true ∧ d.showable = true ∧ d.hasDict = false ∧ d.depth ≤ 60 ∧ d.shown.length ≤ sizeLine) ∨
    ∃ (a : Addr) (z : Str) (n : Int), v = .ref a ∧ H a = some (.dK [(Sum.inr z, .int n)]) ∧ (oneD z n).showable = true ∧ (oneD z n).shown.length ≤ sizeLine
mutual
theorem dp_ex {K : PySem.W.Frag} {H H' : Hp} (e : Ex H H') : ∀ {v : V} {d : PyData}, Dp K H v d → Dp K H' v d
  | _, _, .non => .non
  | _, _, .bl b => .bl b
  | _, _, .int i => .int i
  | _, _, .str x => .str x
  | _, _, .lst h k => .lst (ex_l e h) (dpAll_ex e k)
  | _, _, .tup h k => .tup (ex_t e h) (dpAll_ex e k)
theorem dpAll_ex {K : PySem.W.Frag} {H H' : Hp} (e : Ex H H') : ∀ {vs : List V} {ds : List PyData}, DpAll K H vs ds → DpAll K H' vs ds
  | _, _, .nil => .nil
  | _, _, .cons h k => .cons (dp_ex e h) (dpAll_ex e k)
end
theorem Fine.ex {K : PySem.W.Frag} {v : V} {H H' : Hp} (e : Ex H H') (h : Fine K v H) : Fine K v H' := by
  rcases h with ⟨d, h, r⟩ | ⟨a, z, n, q, h, r⟩
  · exact .inl ⟨d, dp_ex e h, r⟩
  · exact .inr ⟨a, z, n, q, e _ _ h, r⟩
/-- repr of such a value -/
abbrev rRep (K : PySem.W.Frag) : List V → Hp → VK → Prop := fun xs H Q => rRepr K xs H Q ∨ rReprD xs H Q
def shownF (K : PySem.W.Frag) (v : V) (t : Str) (H : Hp) : Prop := ∀ H', Ex H H' → ∀ Q : VK, Q (.str t) H' → rRep K [v] H' Q
theorem Fine.shown {K : PySem.W.Frag} {v : V} {H : Hp} (h : Fine K v H) : ∃ t, shownF K v t H := by
  rcases h with ⟨d, h, s1, s2, s3, s4, s5⟩ | ⟨a, z, n, rfl, h, s1, s2⟩
  · exact ⟨d.shown, fun H' e Q q => .inl ⟨v, d, rfl, dp_ex e h, s2, s3, s4, s5, q⟩⟩
  · exact ⟨(oneD z n).shown, fun H' e Q q => .inr ⟨a, z, n, rfl, e _ _ h, s1, s2, q⟩⟩
/-- == of a value with itself -/
def rEqDict : R2 := fun x y H Q => ∃ a b kvs, x = .ref a ∧ y = .ref b ∧ H a = some (.dK kvs) ∧ H b = some (.dK kvs) ∧ (kvs.map (·.1)).Nodup ∧ (∀ p ∈ kvs, flatB p.2 = true) ∧ Q (.bl true) H
abbrev rSame (K : PySem.W.Frag) : R2 := fun x y H Q => rEqD K x y H Q ∨ rEqDict x y H Q
theorem Fine.same {K : PySem.W.Frag} {v : V} {H : Hp} (h : Fine K v H) : RV (rSame K) v v H (.bl true) := fun H1 e Q q => by
  rcases h with ⟨d, h, s1, _⟩ | ⟨a, z, n, rfl, h, _⟩
  · refine .inl ⟨d, d, dp_ex e h, dp_ex e h, s1, s1, ?_⟩
    rw [SeqAt.eqv_refl d (SeqAt.canLay_of_shaped s1)]
    exact q H1 (Ex.refl H1)
  · exact .inr ⟨a, a, _, rfl, rfl, e _ _ h, e _ _ h, by simp, by simp [flatB], q H1 (Ex.refl H1)⟩

/-! ### loops over enumerate -/
theorem for_enumL {K : PySem.W.Frag} {a : Addr} {xs : List V} {g : TG} {tb : TS} {D : Ends} {σ : L2.St} {H : Hp} (Pv : Nat → L2.St → Hp → Prop) (h0 : Pv 0 σ H)
    (hq : ∀ i σ H, Pv i σ H → SqL K H a xs)
    (hs : ∀ (i : Nat) (x : V) (T : Addr) (σ : L2.St) (H : Hp), xs[i]? = some x → Pv i σ H → H T = none →
      g (.ref T) σ (upd H T (.tup [.int (i : Nat), x])) fun σ2 H2 => tb { D with nx := Pv (i + 1), ct := Pv (i + 1), bk := D.nx } σ2 H2)
    (hd : ∀ σ H, Pv xs.length σ H → D.nx σ H) :
    ∃ W : Nat → Nat → L2.St → Hp → Prop, (∃ m, W 0 m σ H) ∧ ∀ i m σ H, W i m σ H →
      ((Ite K a).stop i H ∧ D.nx σ H) ∨ ((Ite K a).go i H ∧ ∃ N : L2.St → Hp → Prop, (∀ σ' H', N σ' H' → ∃ m', m' < m ∧ W (i + 1) m' σ' H') ∧
        ∀ v H', (Ite K a).yld i H v H' → g v σ H' fun σ2 H2 => tb { D with nx := N, ct := N, bk := D.nx } σ2 H2) := by
  refine ⟨fun i m σ H => m + i = xs.length ∧ Pv i σ H, ⟨xs.length, rfl, h0⟩, ?_⟩
  rintro i m σ H ⟨e, p⟩
  have q := hq i σ H p
  rcases Nat.lt_or_ge i xs.length with lt | ge
  · refine .inr ⟨⟨xs, xs[i], q, List.getElem?_eq_getElem lt⟩, Pv (i + 1), fun σ' H' p' => ⟨m - 1, by omega, by omega, p'⟩, ?_⟩
    rintro v H' ⟨T, x, rfl, nT, rfl, fx⟩
    exact hs i x T σ H (fx xs q) p nT
  · cases (show i = xs.length by omega)
    exact .inl ⟨⟨xs, q, Nat.le_refl _⟩, hd _ _ p⟩
/-! ### an error without an __init__ of its own -/
section
variable {X : Cx} {C : Addr} {x : Str} {p pos : Pos}
theorem pe_exc0 {bmB : List Value} {B newId initId : String} (F : ExcBaseFacts B newId initId bmB) (q : PySem.W.excIn X.K C bmB newId = true) (gC : X.mg x = some (.ref C))
    (kC : PySem.W.keepIn X.K (.ref C) = true) (hg : Gl X x) (hdb : (x == ("__debug__" : Str)) = false := by decide) :
    PE X (.Call (.Name x p) [] [] pos) (fun _ H Q => ∀ a, H a = none → Q (.ref a) (upd H a (ExO (.ref C) a))) := by
  refine ⟨fun pins s σ H Q I h => wpAny_Call_Name_kw (ld_glob I hg gC ?_ hdb)⟩
  refine PySem.W.callWith_K0 I.kIn kC ?_
  show wpAny _ _ (call (.ref C) []) _ _ s
  obtain ⟨bm, N, nm, qn, bs, hdct, sn, sub, ab, col, dd, k0, k1, k2, k3, k5, mN, hC, hN, hni, T⟩ := exc_obj I.kIn q
  refine wpAny_call_exc_subT F T hC hN hni (fun h' a made => ?_) (by decide)
  have na : H a = none := I.hok.gone made.new
  obtain ⟨t, there, _, _⟩ := made.there
  exact ⟨.ref a, upd H a (ExO (.ref C) a), I.laidN made.keeps made.new na (exO_ok there ⟨rfl, rfl⟩ rfl rfl rfl (show 4 < 6 by decide)), rfl, h a na⟩
/-- "ab" * n -/
def rAb : R2 := fun x y H Q => ∃ n : Int, x = .str "ab" ∧ y = .int n ∧ 0 ≤ n ∧ n < 3 ∧ ∀ t : Str, (reprText t).length ≤ sizeLine → SeqAt.shaped (.str t) = true → Q (.str t) H
theorem op_mul_ab : OpR X (binaryOp .Mult) rAb := by
  intro pins s σ H x y v u Q I rx ry h
  obtain ⟨n, rfl, rfl, h0, h3, q⟩ := h
  obtain ⟨t, rfl⟩ := (show ∃ t, v = Value.str "ab" t from rx)
  obtain ⟨t', rfl⟩ := (show ∃ t, u = Value.int n t from ry)
  rcases (show n = 0 ∨ n = 1 ∨ n = 2 by omega) with rfl | rfl | rfl
  · exact PySem.P.mul_str_none (by decide) (by decide) ⟨.str Str.empty, H, I.tok _, ⟨_, rfl⟩, q _ (by decide +kernel) (by decide +kernel)⟩
  · exact PySem.P.mul_str (by decide) (fun _ z => by cases z) (fun _ z => by cases z) ⟨.str "ab", H, I, ⟨t, rfl⟩, q _ (by decide +kernel) (by decide +kernel)⟩
  · exact PySem.P.mul_str (by decide) (fun _ _ => by decide +kernel) (fun _ _ => by decide +kernel) ⟨by decide +kernel, .str _, H, I.tok _, ⟨_, rfl⟩, q _ (by decide +kernel) (by decide +kernel)⟩
end
end AP

set_option maxHeartbeats 4000000
/-! What an expression evaluates to, told by values of Lean's own: the heap stands behind. -/
namespace AP
open PySem PySem.Spec PyProof.Rows L2 Evl

/-! ### the state: what stays (B), the generator of draws, how many draws there were -/
def Gn (g : Addr) (z : Int) (H : Hp) : Prop := ∃ x y : Int, H g = some (.lst [.int x, .int y, .int z]) ∧ 0 ≤ x ∧ 0 ≤ y ∧ y < 2147483648 ∧ 0 ≤ z
structure At (G : Option Addr) (z : Int) (B H : Hp) : Prop where
  ex : Ex B H
  gen : ∀ g, G = some g → B g = none ∧ Gn g z H
structure Nx (G : Option Addr) (c : Nat) (z : Int) (B H : Hp) (z' : Int) (B' H' : Hp) : Prop where
  at_ : At G z' B' H'
  up : Ex B B'
  new : ∀ a o, B' a = some o → B a = some o ∨ H a = none
  lo : z ≤ z'
  hi : z' ≤ z + c
  keep : ∀ a o, G ≠ some a → H a = some o → H' a = some o
section
variable {G : Option Addr} {c c1 c2 : Nat} {z z' z0 z1 z2 : Int} {B B' H H' B0 H0 B1 H1 B2 H2 : Hp}
theorem Nx.refl (s : At G z B H) : Nx G 0 z B H z B H := ⟨s, Ex.refl B, fun _ _ h => .inl h, by omega, by omega, fun _ _ _ h => h⟩
theorem Nx.gone (a : Nx G c z B H z' B' H') (s : At G z B H) {x : Addr} (h : H' x = none) : H x = none := by
  cases e : H x with
  | none => rfl
  | some o =>
    by_cases hg : G = some x
    · obtain ⟨_, _, _, q, _⟩ := a.at_.gen x hg
      rw [q] at h
      cases h
    · rw [a.keep x o hg e] at h
      cases h
theorem Nx.trans (s : At G z0 B0 H0) (a : Nx G c1 z0 B0 H0 z1 B1 H1) (b : Nx G c2 z1 B1 H1 z2 B2 H2) : Nx G (c1 + c2) z0 B0 H0 z2 B2 H2 := by
  refine ⟨b.at_, a.up.trans b.up, fun x o h => ?_, Int.le_trans a.lo b.lo, ?_, fun x o hg h => b.keep x o hg (a.keep x o hg h)⟩
  · rcases b.new x o h with h | h
    · exact a.new x o h
    · exact .inr (a.gone s h)
  · have := a.hi
    have := b.hi
    omega
theorem Nx.le (a : Nx G c1 z B H z' B' H') (h : c1 ≤ c2) : Nx G c2 z B H z' B' H' := ⟨a.at_, a.up, a.new, a.lo, by have := a.hi; omega, a.keep⟩
theorem Nx.alloc {p : Addr} {o : HO} (s : At G z B H) (h : H p = none) : Nx G 0 z B H z (upd B p o) (upd H p o) := by
  have hB : B p = none := by
    cases e : B p with
    | none => rfl
    | some u => rw [s.ex p u e] at h; cases h
  refine ⟨⟨fun a u e => ?_, fun g hg => ?_⟩, Ex.new hB, fun a u e => ?_, by omega, by omega, fun a u _ e => Ex.new h a u e⟩
  · by_cases ha : a = p
    · subst ha
      rw [upd_same] at e ⊢
      exact e
    · rw [upd_ne ha] at e ⊢
      exact s.ex a u e
  · obtain ⟨h1, x, y, q, r⟩ := s.gen g hg
    have ne : g ≠ p := ne_of_none q h
    exact ⟨by rw [upd_ne ne]; exact h1, x, y, by rw [upd_ne ne]; exact q, r⟩
  · by_cases ha : a = p
    · subst ha
      exact .inr h
    · rw [upd_ne ha] at e
      exact .inl e
/-- more in the heap, nothing new that is known -/
theorem Nx.more (s : At G z B H) (e : Ex H H') : Nx G 0 z B H z B H' :=
  ⟨⟨s.ex.trans e, fun g hg => ⟨(s.gen g hg).1, by obtain ⟨_, x, y, q, r⟩ := s.gen g hg; exact ⟨x, y, e _ _ q, r⟩⟩⟩, Ex.refl B, fun _ _ h => .inl h, by omega, by omega, fun a o _ h => e a o h⟩
end

/-! ### values of Lean for values of Python -/
class Py (α : Type) where
  is : α → V → Hp → Prop
  st : ∀ (x : α) (v : V) (B B' : Hp), Ex B B' → is x v B → is x v B'
theorem Py.stays {α : Type} [Py α] (x : α) : Stays (Py.is x) := fun v B B' e h => Py.st x v B B' e h
instance : Py Int := ⟨fun n v _ => v = .int n, fun _ _ _ _ _ h => h⟩
instance : Py Bool := ⟨fun n v _ => v = .bl n, fun _ _ _ _ _ h => h⟩
instance : Py Str := ⟨fun n v _ => v = .str n, fun _ _ _ _ _ h => h⟩
instance : Py Unit := ⟨fun _ v _ => v = .non, fun _ _ _ _ _ h => h⟩
inductive Each {α : Type} [Py α] (B : Hp) : List α → List V → Prop
  | nil : Each B [] []
  | cons {x : α} {v : V} {xs : List α} {vs : List V} : Py.is x v B → Each B xs vs → Each B (x :: xs) (v :: vs)
section
variable {α β : Type} [Py α] [Py β]
theorem Each.ex {B B' : Hp} (e : Ex B B') : ∀ {xs : List α} {vs : List V}, Each B xs vs → Each B' xs vs
  | _, _, .nil => .nil
  | _, _, .cons h r => .cons (Py.st _ _ _ _ e h) (Each.ex e r)
theorem Each.len {B : Hp} : ∀ {xs : List α} {vs : List V}, Each B xs vs → vs.length = xs.length
  | _, _, .nil => rfl
  | _, _, .cons _ r => congrArg Nat.succ (Each.len r)
theorem Each.app {B : Hp} : ∀ {xs ys : List α} {vs ws : List V}, Each B xs vs → Each B ys ws → Each B (xs ++ ys) (vs ++ ws)
  | _, _, _, _, .nil, h => h
  | _, _, _, _, .cons h r, k => .cons h (Each.app r k)
theorem Each.get {B : Hp} : ∀ {xs : List α} {vs : List V}, Each B xs vs → ∀ {i : Nat} {x : α}, xs[i]? = some x → ∃ v, vs[i]? = some v ∧ Py.is x v B
  | _, _, .nil, _, _, h => by cases h
  | _, _, .cons h r, 0, _, e => by cases e; exact ⟨_, rfl, h⟩
  | _, _, .cons _ r, i + 1, _, e => Each.get r (i := i) e
theorem Each.got {B : Hp} : ∀ {xs : List α} {vs : List V}, Each B xs vs → ∀ {i : Nat} {v : V}, vs[i]? = some v → ∃ x, xs[i]? = some x ∧ Py.is x v B
  | _, _, .nil, _, _, h => by cases h
  | _, _, .cons h r, 0, _, e => by cases e; exact ⟨_, rfl, h⟩
  | _, _, .cons _ r, i + 1, _, e => Each.got r (i := i) e
theorem Each.drop {B : Hp} : ∀ (n : Nat) {xs : List α} {vs : List V}, Each B xs vs → Each B (xs.drop n) (vs.drop n)
  | 0, _, _, h => h
  | n + 1, _, _, .nil => .nil
  | n + 1, _, _, .cons _ r => Each.drop n r
theorem Each.take {B : Hp} : ∀ (n : Nat) {xs : List α} {vs : List V}, Each B xs vs → Each B (xs.take n) (vs.take n)
  | 0, _, _, _ => .nil
  | n + 1, _, _, .nil => .nil
  | n + 1, _, _, .cons h r => .cons h (Each.take n r)
theorem Each.snoc {B : Hp} {xs : List α} {vs : List V} {x : α} {v : V} (h : Each B xs vs) (k : Py.is x v B) : Each B (xs ++ [x]) (vs ++ [v]) := h.app (.cons k .nil)
theorem Each.rev {B : Hp} : ∀ {xs : List α} {vs : List V}, Each B xs vs → Each B xs.reverse vs.reverse
  | _, _, .nil => .nil
  | _, _, .cons h r => by
    rw [List.reverse_cons, List.reverse_cons]
    exact (Each.rev r).snoc h
theorem Each.ints {B : Hp} : ∀ {ns : List Int} {vs : List V}, Each B ns vs → vs = ns.map V.int
  | _, _, .nil => rfl
  | _, _, .cons h r => by
    rw [List.map_cons, ← Each.ints r, ← (show _ = V.int _ from h)]
theorem Each.bls {B : Hp} : ∀ {ns : List Bool} {vs : List V}, Each B ns vs → vs = ns.map V.bl
  | _, _, .nil => rfl
  | _, _, .cons h r => by
    rw [List.map_cons, ← Each.bls r, ← (show _ = V.bl _ from h)]
theorem Each.of_ints {B : Hp} : ∀ (ns : List Int), Each B ns (ns.map V.int)
  | [] => .nil
  | _ :: r => .cons rfl (Each.of_ints r)
instance : Py (List α) := ⟨fun xs v B => ∃ p vs, v = .ref p ∧ B p = some (.lst vs) ∧ Each B xs vs, fun _ _ _ _ e ⟨p, vs, h1, h2, h3⟩ => ⟨p, vs, h1, e _ _ h2, h3.ex e⟩⟩
instance : Py (α × β) := ⟨fun x v B => ∃ p a b, v = .ref p ∧ B p = some (.tup [a, b]) ∧ Py.is x.1 a B ∧ Py.is x.2 b B, fun _ _ _ _ e ⟨p, a, b, h1, h2, h3, h4⟩ => ⟨p, a, b, h1, e _ _ h2, Py.st _ _ _ _ e h3, Py.st _ _ _ _ e h4⟩⟩
end
theorem Py.ints {ns : List Int} {v : V} {B : Hp} (h : Py.is ns v B) : ∃ p, v = .ref p ∧ B p = some (.lst (ns.map V.int)) := by
  obtain ⟨p, vs, e1, e2, e3⟩ := h
  rw [e3.ints] at e2
  exact ⟨p, e1, e2⟩
theorem Py.of_ints {ns : List Int} {p : Addr} {B : Hp} (h : B p = some (.lst (ns.map V.int))) : Py.is ns (.ref p) B := ⟨p, _, rfl, h, .of_ints ns⟩
/-- the generator -/
structure GenR where
  at_ : Addr
instance : Py GenR := ⟨fun r v _ => v = .ref r.at_, fun _ _ _ _ _ h => h⟩

/-! ### what the slots hold -/
abbrev Ctx := List (Option VP)
structure Slo (B : Hp) (σ : L2.St) (Γ : Ctx) : Prop where
  len : σ.length = Γ.length
  all : ∀ (i : Nat) (P : VP), Γ[i]? = some (some P) → ∃ v, σ[i]? = some (some v) ∧ Stays P ∧ P v B
section
variable {B B' : Hp} {σ : L2.St} {Γ : Ctx} {P : VP} {v : V} {i : Nat}
theorem Slo.up (e : Ex B B') (h : Slo B σ Γ) : Slo B' σ Γ := ⟨h.len, fun i P q => by
  obtain ⟨v, h1, h2, h3⟩ := h.all i P q
  exact ⟨v, h1, h2, h2 _ _ _ e h3⟩⟩
theorem Slo.set (h : Slo B σ Γ) (st : Stays P) (p : P v B) : Slo B (σ.set i (some v)) (Γ.set i (some P)) := ⟨by rw [List.length_set, List.length_set, h.len], fun j R q => by
  by_cases e : i = j
  · subst e
    by_cases lt : i < Γ.length
    · rw [List.getElem?_set_self lt] at q
      cases q
      exact ⟨v, List.getElem?_set_self (by rw [h.len]; exact lt), st, p⟩
    · rw [List.getElem?_eq_none (by rw [List.length_set]; omega)] at q
      cases q
  · rw [List.getElem?_set_ne e] at q
    obtain ⟨w, h1, h2⟩ := h.all j R q
    exact ⟨w, by rw [List.getElem?_set_ne e]; exact h1, h2⟩⟩
theorem Slo.put {α : Type} [Py α] {x : α} (h : Slo B σ Γ) (p : Py.is x v B) : Slo B (σ.set i (some v)) (Γ.set i (some (Py.is x))) := h.set (Py.stays x) p
def wipeC (Γ : Ctx) : List Nat → Ctx
  | [] => Γ
  | v :: vs => (wipeC Γ vs).set v none
theorem Slo.none (h : Slo B σ Γ) {o : Option V} : Slo B (σ.set i o) (Γ.set i Option.none) := ⟨by rw [List.length_set, List.length_set, h.len], fun j R q => by
  by_cases e : i = j
  · subst e
    by_cases lt : i < Γ.length
    · rw [List.getElem?_set_self lt] at q
      cases q
    · rw [List.getElem?_eq_none (by rw [List.length_set]; omega)] at q
      cases q
  · rw [List.getElem?_set_ne e] at q
    obtain ⟨w, h1, h2⟩ := h.all j R q
    exact ⟨w, by rw [List.getElem?_set_ne e]; exact h1, h2⟩⟩
theorem Slo.wipe (h : Slo B σ Γ) : ∀ vs : List Nat, Slo B (L2.wipe σ vs) (wipeC Γ vs)
  | [] => h
  | v :: vs => (Slo.wipe h vs).none
theorem Alls.stays {H : Hp} : ∀ {Ps : List VP} {xs : List V}, Alls H Ps xs → ∀ {i : Nat} {P : VP}, Ps[i]? = some P → ∃ v, xs[i]? = some v ∧ Stays P ∧ P v H
  | _, _, .nil, _, _, h => by cases h
  | _, _, .cons st h r, 0, _, e => by cases e; exact ⟨_, rfl, st, h⟩
  | _, _, .cons _ h r, i + 1, _, e => Alls.stays r (i := i) e
def ctx0 (n : Nat) (Ps : List VP) : Ctx := Ps.map some ++ List.replicate (n - Ps.length) Option.none
theorem Slo.start {N : List Str} {vs : List V} {Ps : List VP} (h : Alls B Ps vs) : Slo B (L2.start N vs) (ctx0 N.length Ps) := by
  have hl := h.len
  refine ⟨?_, fun i P q => ?_⟩
  · unfold L2.start ctx0
    simp [hl]
  · unfold ctx0 at q
    unfold L2.start
    by_cases lt : i < Ps.length
    · rw [List.getElem?_append_left (by rw [List.length_map]; exact lt), List.getElem?_map] at q
      cases e : Ps[i]? with
      | none => rw [e] at q; cases q
      | some R =>
        rw [e] at q
        cases q
        obtain ⟨v, h1, h2⟩ := h.stays e
        exact ⟨v, by rw [List.getElem?_append_left (by rw [List.length_map, hl]; exact lt), List.getElem?_map, h1] <;> rfl, h2⟩
    · rw [List.getElem?_append_right (by rw [List.length_map]; omega)] at q
      rw [List.getElem?_replicate] at q
      split at q <;> cases q
end

/-! ### the judgements -/
def Ty (G : Option Addr) (c : Nat) (te : TE) (Γ : Ctx) {α : Type} [Py α] (A : α → Prop) : Prop :=
  ∀ z B σ H, Slo B σ Γ → At G z B H → z + c ≤ 2 ^ 50 → ∀ Q : VK, (∀ x v z' B' H', A x → Nx G c z B H z' B' H' → Py.is x v B' → Q v H') → te σ H Q
def TyT (G : Option Addr) (c : Nat) (tt : TT) (Γ : Ctx) (A : Bool → Prop) : Prop :=
  ∀ z B σ H, Slo B σ Γ → At G z B H → z + c ≤ 2 ^ 50 → ∀ Q : Bool → Hp → Prop, (∀ b z' B' H', A b → Nx G c z B H z' B' H' → Q b H') → tt σ H Q
def TyA (G : Option Addr) (c : Nat) (ta : TA) (Γ : Ctx) (Ps : List VP) : Prop :=
  ∀ z B σ H, Slo B σ Γ → At G z B H → z + c ≤ 2 ^ 50 → ∀ Q : List V → Hp → Prop, (∀ vs z' B' H', Alls B' Ps vs → Nx G c z B H z' B' H' → Q vs H') → ta σ H Q
/-- some value of these -/
def isA {α : Type} [Py α] (A : α → Prop) : VP := fun v B => ∃ x, A x ∧ Py.is x v B
theorem isA.stays {α : Type} [Py α] (A : α → Prop) : Stays (isA A) := fun _ _ _ e ⟨x, h1, h2⟩ => ⟨x, h1, Py.st _ _ _ _ e h2⟩
/-- a two-place operation on values -/
def Rv (G : Option Addr) (r : R2) (v w : V) (B : Hp) {α : Type} [Py α] (A : α → Prop) : Prop :=
  ∀ z B' H, Ex B B' → At G z B' H → ∀ Q : VK, (∀ x u z' B'' H', A x → Nx G 0 z B' H z' B'' H' → Py.is x u B'' → Q u H') → r v w H Q
def Ru (G : Option Addr) (r : V → Hp → VK → Prop) (v : V) (B : Hp) {α : Type} [Py α] (A : α → Prop) : Prop :=
  ∀ z B' H, Ex B B' → At G z B' H → ∀ Q : VK, (∀ x u z' B'' H', A x → Nx G 0 z B' H z' B'' H' → Py.is x u B'' → Q u H') → r v H Q
def Rc (G : Option Addr) (r : List V → Hp → VK → Prop) (vs : List V) (B : Hp) {α : Type} [Py α] (A : α → Prop) : Prop :=
  ∀ z B' H, Ex B B' → At G z B' H → ∀ Q : VK, (∀ x u z' B'' H', A x → Nx G 0 z B' H z' B'' H' → Py.is x u B'' → Q u H') → r vs H Q
section
variable {G : Option Addr} {c c1 c2 c3 : Nat} {te ta tb tx : TE} {tt tu : TT} {Γ : Ctx} {α β γ : Type} [Py α] [Py β] [Py γ] {A A' : α → Prop} {A1 : β → Prop} {A2 : γ → Prop} {Ps : List VP} {tr : TA}
theorem Ty.imp (h : Ty G c te Γ A) (i : ∀ x, A x → A' x) : Ty G c te Γ A' := fun z B σ H en s hz Q q => h z B σ H en s hz Q fun x v z' B' H' a => q x v z' B' H' (i x a)
theorem Ty.to {x y : α} (h : Ty G c te Γ (· = x)) (e : x = y) : Ty G c te Γ (· = y) := e ▸ h
theorem TyT.to {x y : Bool} (h : TyT G c tt Γ (· = x)) (e : x = y) : TyT G c tt Γ (· = y) := e ▸ h
theorem TyT.imp {A A' : Bool → Prop} (h : TyT G c tt Γ A) (i : ∀ x, A x → A' x) : TyT G c tt Γ A' := fun z B σ H en s hz Q q => h z B σ H en s hz Q fun x z' B' H' a => q x z' B' H' (i x a)
theorem Ty.le (h : Ty G c1 te Γ A) (i : c1 ≤ c2) : Ty G c2 te Γ A := fun z B σ H en s hz Q q => h z B σ H en s (by omega) Q fun x v z' B' H' a n => q x v z' B' H' a (n.le i)
theorem TyT.le {A : Bool → Prop} (h : TyT G c1 tt Γ A) (i : c1 ≤ c2) : TyT G c2 tt Γ A := fun z B σ H en s hz Q q => h z B σ H en s (by omega) Q fun x z' B' H' a n => q x z' B' H' a (n.le i)
theorem ty_var {i : Nat} {x : α} (e : Γ[i]? = some (some (Py.is x))) : Ty G 0 (tVar i) Γ (· = x) := fun z B σ H en s _ Q q => by
  obtain ⟨v, h1, _, h2⟩ := en.all i _ e
  exact ⟨v, h1, q x v z B H rfl (.refl s) h2⟩
theorem ty_i {n : Int} : Ty G 0 (tC (.int n)) Γ (· = n) := fun z B σ H en s _ Q q => q n _ z B H rfl (.refl s) rfl
theorem ty_b {n : Bool} : Ty G 0 (tC (.bl n)) Γ (· = n) := fun z B σ H en s _ Q q => q n _ z B H rfl (.refl s) rfl
theorem ty_n : Ty G 0 (tC .non) Γ (· = ()) := fun z B σ H en s _ Q q => q () _ z B H rfl (.refl s) rfl
theorem ty_s {n : Str} : Ty G 0 (tC (.str n)) Γ (· = n) := fun z B σ H en s _ Q q => q n _ z B H rfl (.refl s) rfl
theorem ty_op {r : R2} (ha : Ty G c1 ta Γ A) (hb : Ty G c2 tb Γ A1) (hr : ∀ x y v w B, A x → A1 y → Py.is x v B → Py.is y w B → Rv G r v w B A2) : Ty G (c1 + c2) (tOp r ta tb) Γ A2 := fun z B σ H en s hz Q q => by
  refine ha z B σ H en s (by omega) _ fun x v z1 B1 H1 ax n1 hv => ?_
  refine hb z1 B1 σ H1 (en.up n1.up) n1.at_ (by have := n1.hi; omega) _ fun y w z2 B2 H2 ay n2 hw => ?_
  refine hr x y v w B2 ax ay (Py.st _ _ _ _ n2.up hv) hw z2 B2 H2 (Ex.refl _) n2.at_ _ fun u m z3 B3 H3 au n3 hm => ?_
  exact q u m z3 B3 H3 au (((n1.trans s n2).trans s n3).le (by omega)) hm
theorem ty_un {r : V → Hp → VK → Prop} (ha : Ty G c ta Γ A) (hr : ∀ x v B, A x → Py.is x v B → Ru G r v B A1) : Ty G c (tUn r ta) Γ A1 := fun z B σ H en s hz Q q => by
  refine ha z B σ H en s hz _ fun x v z1 B1 H1 ax n1 hv => ?_
  refine hr x v B1 ax hv z1 B1 H1 (Ex.refl _) n1.at_ _ fun u m z3 B3 H3 au n3 hm => ?_
  exact q u m z3 B3 H3 au ((n1.trans s n3).le (by omega)) hm
theorem ta_nil : TyA G 0 tNil Γ [] := fun z B σ H en s _ Q q => q [] z B H .nil (.refl s)
theorem ta_consN (h : Ty G c1 te Γ A) (hr : TyA G c2 tr Γ Ps) : TyA G (c1 + c2) (tCons te tr) Γ (isA A :: Ps) := fun z B σ H en s hz Q q => by
  refine h z B σ H en s (by omega) _ fun x v z1 B1 H1 ax n1 hv => ?_
  refine hr z1 B1 σ H1 (en.up n1.up) n1.at_ (by have := n1.hi; omega) _ fun vs z2 B2 H2 al n2 => ?_
  exact q _ z2 B2 H2 (.cons (isA.stays A) ⟨x, ax, Py.st _ _ _ _ n2.up hv⟩ al) (n1.trans s n2)
theorem ta_cons {x : α} (h : Ty G c1 te Γ (· = x)) (hr : TyA G c2 tr Γ Ps) : TyA G (c1 + c2) (tCons te tr) Γ (Py.is x :: Ps) := fun z B σ H en s hz Q q => by
  refine h z B σ H en s (by omega) _ fun y v z1 B1 H1 ax n1 hv => ?_
  subst ax
  refine hr z1 B1 σ H1 (en.up n1.up) n1.at_ (by have := n1.hi; omega) _ fun vs z2 B2 H2 al n2 => ?_
  exact q _ z2 B2 H2 (.cons (Py.stays _) (Py.st _ _ _ _ n2.up hv) al) (n1.trans s n2)
theorem ty_cb {r : List V → Hp → VK → Prop} (ha : TyA G c tr Γ Ps) (hr : ∀ vs B, Alls B Ps vs → Rc G r vs B A) : Ty G c (tCB r tr) Γ A := fun z B σ H en s hz Q q => by
  refine ha z B σ H en s hz _ fun vs z1 B1 H1 al n1 => ?_
  refine hr vs B1 al z1 B1 H1 (Ex.refl _) n1.at_ _ fun u m z3 B3 H3 au n3 hm => ?_
  exact q u m z3 B3 H3 au ((n1.trans s n3).le (by omega)) hm
/-! tests -/
theorem tt_test {A : Bool → Prop} (h : Ty G c te Γ A) : TyT G c (tTest te) Γ A := fun z B σ H en s hz Q q => h z B σ H en s hz _ fun x v z' B' H' ax n hv => ⟨x, hv, q x z' B' H' ax n⟩
theorem tt_B {A : Bool → Prop} (h : Ty G c te Γ A) : TyT G c (tB te) Γ A := fun z B σ H en s hz Q q => h z B σ H en s hz _ fun x v z' B' H' ax n hv => ⟨x, hv, q x z' B' H' ax n⟩
theorem tt_not {A : Bool → Prop} (h : TyT G c tt Γ A) : TyT G c (tNot tt) Γ (fun b => A (!b)) := fun z B σ H en s hz Q q => h z B σ H en s hz _ fun x z' B' H' ax n => q (!x) z' B' H' (by show A (!!x); rw [Bool.not_not]; exact ax) n
theorem tt_notD {b : Bool} (h : TyT G c tt Γ (· = b)) : TyT G c (tNot tt) Γ (· = !b) := (tt_not h).imp fun x e => by rw [← e, Bool.not_not]
theorem tt_yes : TyT G 0 tYes Γ (· = true) := fun z B σ H en s _ Q q => q true z B H rfl (.refl s)
theorem tt_and {a b : Bool} (h1 : TyT G c1 tt Γ (· = a)) (h2 : a = true → TyT G c2 tu Γ (· = b)) : TyT G (c1 + c2) (tAnd tt tu) Γ (· = (a && b)) := fun z B σ H en s hz Q q => by
  refine h1 z B σ H en s (by omega) _ fun x z1 B1 H1 ax n1 => ?_
  subst ax
  cases x with
  | true =>
    show tu σ H1 Q
    refine h2 rfl z1 B1 σ H1 (en.up n1.up) n1.at_ (by have := n1.hi; omega) _ fun y z2 B2 H2 ay n2 => ?_
    exact q y z2 B2 H2 ay (n1.trans s n2)
  | false =>
    show Q false H1
    exact q false z1 B1 H1 rfl (n1.le (by omega))
theorem tt_or {a b : Bool} (h1 : TyT G c1 tt Γ (· = a)) (h2 : a = false → TyT G c2 tu Γ (· = b)) : TyT G (c1 + c2) (tOr tt tu) Γ (· = (a || b)) := fun z B σ H en s hz Q q => by
  refine h1 z B σ H en s (by omega) _ fun x z1 B1 H1 ax n1 => ?_
  subst ax
  cases x with
  | false =>
    show tu σ H1 Q
    refine h2 rfl z1 B1 σ H1 (en.up n1.up) n1.at_ (by have := n1.hi; omega) _ fun y z2 B2 H2 ay n2 => ?_
    exact q y z2 B2 H2 ay (n1.trans s n2)
  | true =>
    show Q true H1
    exact q true z1 B1 H1 rfl (n1.le (by omega))
theorem ty_andV {a b : Bool} (h1 : Ty G c1 ta Γ (· = a)) (h2 : a = true → Ty G c2 tb Γ (· = b)) : Ty G (c1 + c2) (tAndV ta tb) Γ (· = (a && b)) := fun z B σ H en s hz Q q => by
  refine h1 z B σ H en s (by omega) _ fun x v z1 B1 H1 ax n1 hv => ?_
  subst ax
  refine ⟨x, hv, ?_⟩
  cases x with
  | true =>
    show tb σ H1 Q
    refine h2 rfl z1 B1 σ H1 (en.up n1.up) n1.at_ (by have := n1.hi; omega) _ fun y w z2 B2 H2 ay n2 hw => ?_
    exact q y w z2 B2 H2 ay (n1.trans s n2) hw
  | false =>
    show Q (.bl false) H1
    exact q false _ z1 B1 H1 rfl (n1.le (by omega)) rfl
theorem ty_orV {a b : Bool} (h1 : Ty G c1 ta Γ (· = a)) (h2 : a = false → Ty G c2 tb Γ (· = b)) : Ty G (c1 + c2) (tOrV ta tb) Γ (· = (a || b)) := fun z B σ H en s hz Q q => by
  refine h1 z B σ H en s (by omega) _ fun x v z1 B1 H1 ax n1 hv => ?_
  subst ax
  refine ⟨x, hv, ?_⟩
  cases x with
  | false =>
    show tb σ H1 Q
    refine h2 rfl z1 B1 σ H1 (en.up n1.up) n1.at_ (by have := n1.hi; omega) _ fun y w z2 B2 H2 ay n2 hw => ?_
    exact q y w z2 B2 H2 ay (n1.trans s n2) hw
  | true =>
    show Q (.bl true) H1
    exact q true _ z1 B1 H1 rfl (n1.le (by omega)) rfl
theorem ty_notV {a : Bool} (h1 : Ty G c ta Γ (· = a)) : Ty G c (tNotV ta) Γ (· = !a) := fun z B σ H en s hz Q q =>
  h1 z B σ H en s hz _ fun x v z1 B1 H1 ax n1 hv => ⟨x, hv, q (!x) _ z1 B1 H1 (by rw [ax]) n1 rfl⟩
theorem ty_if {b : Bool} (h : TyT G c1 tt Γ (· = b)) (h1 : b = true → Ty G c2 ta Γ A) (h2 : b = false → Ty G c2 tb Γ A) : Ty G (c1 + c2) (tIf tt ta tb) Γ A := fun z B σ H en s hz Q q => by
  refine h z B σ H en s (by omega) _ fun x z1 B1 H1 ax n1 => ?_
  subst ax
  cases x with
  | true =>
    show ta σ H1 Q
    refine h1 rfl z1 B1 σ H1 (en.up n1.up) n1.at_ (by have := n1.hi; omega) _ fun y w z2 B2 H2 ay n2 hw => ?_
    exact q y w z2 B2 H2 ay (n1.trans s n2) hw
  | false =>
    show tb σ H1 Q
    refine h2 rfl z1 B1 σ H1 (en.up n1.up) n1.at_ (by have := n1.hi; omega) _ fun y w z2 B2 H2 ay n2 hw => ?_
    exact q y w z2 B2 H2 ay (n1.trans s n2) hw
end
end AP

set_option maxHeartbeats 4000000
/-! The rules of W1's judgements for the built-in operations. -/
namespace AP
open PySem PySem.Spec PyProof.Rows L2 Evl
section
variable {K : PySem.W.Frag} {G : Option Addr} {c c1 c2 c3 : Nat} {te ta tb tx : TE} {tt tu : TT} {Γ : Ctx} {α β γ : Type} [Py α] [Py β] [Py γ] {A A' : α → Prop} {A1 : β → Prop} {A2 : γ → Prop} {Ps : List VP} {tr : TA} {i j : Int} {B B' H : Hp} {v w : V}
/-- the same value told otherwise -/
theorem Ty.cast {x : α} {y : β} (h : Ty G c te Γ (· = x)) (k : ∀ v B, Py.is x v B → Py.is y v B) : Ty G c te Γ (· = y) := fun z B σ H en s hz Q q =>
  h z B σ H en s hz Q fun x' v z' B' H' a n hv => q y v z' B' H' rfl n (k v B' (a ▸ hv))
theorem Ty.castN {A : α → Prop} {A1 : β → Prop} (h : Ty G c te Γ A) (k : ∀ x v B, A x → Py.is x v B → ∃ y, A1 y ∧ Py.is y v B) : Ty G c te Γ A1 := fun z B σ H en s hz Q q =>
  h z B σ H en s hz Q fun x' v z' B' H' a n hv => by
    obtain ⟨y, h1, h2⟩ := k x' v B' a hv
    exact q y v z' B' H' h1 n h2
/-! ### ints -/
theorem ty_I0 {f : Int → Int → Int} (ha : Ty G c1 ta Γ (· = i)) (hb : Ty G c2 tb Γ (· = j)) : Ty G (c1 + c2) (tOp (rI0 fun a b => .int (f a b)) ta tb) Γ (· = f i j) :=
  ty_op ha hb fun x y v w B ex ey hv hw z B' H e s Q q => ⟨x, y, hv, hw, q _ _ z B' H (by rw [ex, ey]) (.refl s) rfl⟩
theorem ty_I0N {f : Int → Int → Int} {A A' : Int → Prop} (ha : Ty G c1 ta Γ A) (hb : Ty G c2 tb Γ A') : Ty G (c1 + c2) (tOp (rI0 fun a b => .int (f a b)) ta tb) Γ (fun n => ∃ i j, A i ∧ A' j ∧ n = f i j) :=
  ty_op ha hb fun x y v w B ex ey hv hw z B' H e s Q q => ⟨x, y, hv, hw, q _ _ z B' H ⟨x, y, ex, ey, rfl⟩ (.refl s) rfl⟩
theorem ty_I {C : Int → Int → Prop} {f : Int → Int → Int} (ha : Ty G c1 ta Γ (· = i)) (hb : Ty G c2 tb Γ (· = j)) (hc : C i j) : Ty G (c1 + c2) (tOp (rI C fun a b => .int (f a b)) ta tb) Γ (· = f i j) :=
  ty_op ha hb fun x y v w B ex ey hv hw z B' H e s Q q => ⟨x, y, hv, hw, by rw [ex, ey]; exact hc, q _ _ z B' H (by rw [ex, ey]) (.refl s) rfl⟩
theorem ty_IN {C : Int → Int → Prop} {f : Int → Int → Int} {A A' : Int → Prop} (ha : Ty G c1 ta Γ A) (hb : Ty G c2 tb Γ A') (hc : ∀ i j, A i → A' j → C i j) : Ty G (c1 + c2) (tOp (rI C fun a b => .int (f a b)) ta tb) Γ (fun n => ∃ i j, A i ∧ A' j ∧ n = f i j) :=
  ty_op ha hb fun x y v w B ex ey hv hw z B' H e s Q q => ⟨x, y, hv, hw, hc x y ex ey, q _ _ z B' H ⟨x, y, ex, ey, rfl⟩ (.refl s) rfl⟩
theorem ty_B0 {p : Int → Int → Bool} (ha : Ty G c1 ta Γ (· = i)) (hb : Ty G c2 tb Γ (· = j)) : Ty G (c1 + c2) (tOp (rI0 fun a b => .bl (p a b)) ta tb) Γ (· = p i j) :=
  ty_op ha hb fun x y v w B ex ey hv hw z B' H e s Q q => ⟨x, y, hv, hw, q _ _ z B' H (by rw [ex, ey]) (.refl s) rfl⟩
theorem ty_B0N {p : Int → Int → Bool} {A A' : Int → Prop} (ha : Ty G c1 ta Γ A) (hb : Ty G c2 tb Γ A') : Ty G (c1 + c2) (tOp (rI0 fun a b => .bl (p a b)) ta tb) Γ (fun b => ∃ i j, A i ∧ A' j ∧ b = p i j) :=
  ty_op ha hb fun x y v w B ex ey hv hw z B' H e s Q q => ⟨x, y, hv, hw, q _ _ z B' H ⟨x, y, ex, ey, rfl⟩ (.refl s) rfl⟩
theorem dec_int' (i j : Int) : decide (V.int i = V.int j) = decide (i = j) := by
  by_cases h : i = j
  · rw [decide_eq_true h, decide_eq_true (congrArg V.int h)]
  · rw [decide_eq_false h, decide_eq_false fun z => h (by injection z)]
theorem dec_bl' (i j : Bool) : decide (V.bl i = V.bl j) = decide (i = j) := by
  by_cases h : i = j
  · rw [decide_eq_true h, decide_eq_true (congrArg V.bl h)]
  · rw [decide_eq_false h, decide_eq_false fun z => h (by injection z)]
theorem ty_eqI (ha : Ty G c1 ta Γ (· = i)) (hb : Ty G c2 tb Γ (· = j)) : Ty G (c1 + c2) (tOp rEq ta tb) Γ (· = decide (i = j)) :=
  ty_op ha hb fun x y v w B ex ey hv hw z B' H e s Q q => by
    subst ex ey
    cases (show v = .int x from hv)
    cases (show w = .int y from hw)
    exact ⟨rfl, q _ _ z B' H rfl (.refl s) (congrArg V.bl (dec_int' x y))⟩
theorem ty_neI (ha : Ty G c1 ta Γ (· = i)) (hb : Ty G c2 tb Γ (· = j)) : Ty G (c1 + c2) (tOp rNe ta tb) Γ (· = !decide (i = j)) :=
  ty_op ha hb fun x y v w B ex ey hv hw z B' H e s Q q => by
    subst ex ey
    cases (show v = .int x from hv)
    cases (show w = .int y from hw)
    exact ⟨rfl, q _ _ z B' H rfl (.refl s) (congrArg (fun b => V.bl !b) (dec_int' x y))⟩
theorem ty_eqIN {A A' : Int → Prop} (ha : Ty G c1 ta Γ A) (hb : Ty G c2 tb Γ A') : Ty G (c1 + c2) (tOp rEq ta tb) Γ (fun b => ∃ i j, A i ∧ A' j ∧ b = decide (i = j)) :=
  ty_op ha hb fun x y v w B ex ey hv hw z B' H e s Q q => by
    cases (show v = .int x from hv)
    cases (show w = .int y from hw)
    exact ⟨rfl, q _ _ z B' H ⟨x, y, ex, ey, rfl⟩ (.refl s) (congrArg V.bl (dec_int' x y))⟩
theorem ty_eqB {a b : Bool} (ha : Ty G c1 ta Γ (· = a)) (hb : Ty G c2 tb Γ (· = b)) : Ty G (c1 + c2) (tOp rEq ta tb) Γ (· = decide (a = b)) :=
  ty_op ha hb fun x y v w B ex ey hv hw z B' H e s Q q => by
    subst ex ey
    cases (show v = .bl x from hv)
    cases (show w = .bl y from hw)
    exact ⟨rfl, q _ _ z B' H rfl (.refl s) (congrArg V.bl (dec_bl' x y))⟩
theorem ty_eqS {a b : Str} (ha : Ty G c1 ta Γ (· = a)) (hb : Ty G c2 tb Γ (· = b)) : Ty G (c1 + c2) (tOp rEq ta tb) Γ (· = decide (a = b)) :=
  ty_op ha hb fun x y v w B ex ey hv hw z B' H e s Q q => by
    subst ex ey
    cases (show v = .str x from hv)
    cases (show w = .str y from hw)
    refine ⟨rfl, q _ _ z B' H rfl (.refl s) (congrArg V.bl ?_)⟩
    by_cases h : x = y
    · rw [decide_eq_true h, decide_eq_true (congrArg V.str h)]
    · rw [decide_eq_false h, decide_eq_false fun z => h (by injection z)]
theorem ty_neS {a b : Str} (ha : Ty G c1 ta Γ (· = a)) (hb : Ty G c2 tb Γ (· = b)) : Ty G (c1 + c2) (tOp rNe ta tb) Γ (· = !decide (a = b)) :=
  ty_op ha hb fun x y v w B ex ey hv hw z B' H e s Q q => by
    subst ex ey
    cases (show v = .str x from hv)
    cases (show w = .str y from hw)
    refine ⟨rfl, q _ _ z B' H rfl (.refl s) (congrArg (fun b => V.bl !b) ?_)⟩
    by_cases h : x = y
    · rw [decide_eq_true h, decide_eq_true (congrArg V.str h)]
    · rw [decide_eq_false h, decide_eq_false fun z => h (by injection z)]
theorem ty_neg {i : Int} (ha : Ty G c ta Γ (· = i)) : Ty G c (tUn (rU fun i => .int (-i)) ta) Γ (· = -i) :=
  ty_un ha fun x v B ex hv z B' H e s Q q => ⟨x, hv, q _ _ z B' H (by rw [ex]) (.refl s) rfl⟩
theorem ty_bits (h : Ty G c te Γ (· = i)) : Ty G c (tBits te) Γ (· = ((Builtin.Int.intBits i : Nat) : Int)) := fun z B σ H en s hz Q q =>
  h z B σ H en s hz _ fun x v z' B' H' ex n hv => ⟨x, hv, q _ _ z' B' H' (by rw [ex]) n rfl⟩
/-- is None -/
abbrev rIsN0 : R2 := fun x y H Q => y = .non ∧ Q (.bl (decide (x = .non))) H
theorem ty_isN {b : Bool} {x : α} (ha : Ty G c1 ta Γ (· = x)) (hx : ∀ v B, Py.is x v B → decide (v = .non) = b) : Ty G (c1 + 0) (tOp rIsN0 ta (tC .non)) Γ (· = b) :=
  ty_op ha ty_n fun x' y v w B ex ey hv hw z B' H e s Q q => ⟨hw, q _ _ z B' H rfl (.refl s) (congrArg V.bl (hx v B (ex ▸ hv)))⟩
theorem ty_isB {a b : Bool} (ha : Ty G c1 ta Γ (· = a)) (hb : Ty G c2 tb Γ (· = b)) : Ty G (c1 + c2) (tOp rIsB ta tb) Γ (· = decide (a = b)) :=
  ty_op ha hb fun x y v w B ex ey hv hw z B' H e s Q q => ⟨x, y, hv, hw, q _ _ z B' H (by rw [ex, ey]) (.refl s) rfl⟩
/-! chains -/
theorem ty_chain {p p' : Int → Int → Bool} {k : Int} {tc : TE} (ha : Ty G c1 ta Γ (· = i)) (hb : Ty G c2 tb Γ (· = j)) (hc : Ty G c3 tc Γ (· = k)) :
    Ty G (c1 + c2 + c3) (tChain (rI0 fun a b => .bl (p a b)) (rI0 fun a b => .bl (p' a b)) ta tb tc) Γ (· = (p i j && p' j k)) := fun z B σ H en s hz Q q => by
  refine ha z B σ H en s (by omega) _ fun x v z1 B1 H1 ex n1 hv => ?_
  refine hb z1 B1 σ H1 (en.up n1.up) n1.at_ (by have := n1.hi; omega) _ fun y w z2 B2 H2 ey n2 hw => ?_
  subst ex ey
  refine ⟨x, y, hv, hw, p x y, rfl, ?_⟩
  cases e : p x y with
  | true =>
    refine hc z2 B2 σ H2 ((en.up n1.up).up n2.up) n2.at_ (by have := n1.hi; have := n2.hi; omega) _ fun u m z3 B3 H3 eu n3 hm => ?_
    subst eu
    exact ⟨y, u, hw, hm, q _ _ z3 B3 H3 rfl ((n1.trans s n2).trans s n3) (by show V.bl _ = V.bl _; rw [e] <;> rfl)⟩
  | false => exact q _ _ z2 B2 H2 rfl ((n1.trans s n2).le (by omega)) (by show V.bl _ = V.bl _; rw [e] <;> rfl)
/-! ### lists -/
theorem ty_len {xs : List α} (h : Ty G c ta Γ (· = xs)) : Ty G (c + 0) (tCB (rLenS K) (tCons ta tNil)) Γ (· = (xs.length : Int)) :=
  ty_cb (ta_cons h ta_nil) fun vs B al z B' H e s Q q => by
    cases al with
    | cons _ hx r =>
      cases r
      obtain ⟨p, us, rfl, h2, h3⟩ := hx
      refine ⟨p, us, rfl, Or.inl (sq_of (s.ex _ _ (e _ _ h2))), q _ _ z B' H rfl (.refl s) ?_⟩
      show V.int _ = V.int _
      rw [h3.len]
theorem Each.at {B : Hp} {xs : List α} {vs : List V} (h : Each B xs vs) {i : Int} {x : α} (e : atI xs i = some x) : ∃ v, atI vs i = some v ∧ Py.is x v B := by
  unfold atI at e ⊢
  rw [h.len]
  cases q : ixN xs.length i with
  | none => rw [q] at e; cases e
  | some j =>
    rw [q] at e
    exact h.get (i := j) e
theorem ty_ixN {A : List α → Prop} {A' : Int → Prop} {A2 : α → Prop} (ha : Ty G c1 ta Γ A) (hb : Ty G c2 tb Γ A') (hx : ∀ xs i, A xs → A' i → ∃ x, atI xs i = some x ∧ A2 x) : Ty G (c1 + c2) (tOp (rIxL K) ta tb) Γ A2 :=
  ty_op ha hb fun x y v w B ex ey hv hw z B' H e s Q q => by
    obtain ⟨p, us, rfl, h2, h3⟩ := hv
    cases (show w = .int y from hw)
    obtain ⟨x1, e1, a1⟩ := hx x y ex ey
    obtain ⟨u, e2, hu⟩ := h3.at e1
    exact ⟨p, us, y, u, rfl, rfl, sq_of (s.ex _ _ (e _ _ h2)), e2, q x1 u z B' H a1 (.refl s) (Py.st _ _ _ _ e hu)⟩
theorem ty_ix {xs : List α} {x : α} (ha : Ty G c1 ta Γ (· = xs)) (hb : Ty G c2 tb Γ (· = i)) (hx : atI xs i = some x) : Ty G (c1 + c2) (tOp (rIxL K) ta tb) Γ (· = x) :=
  ty_ixN ha hb fun ys k e1 e2 => ⟨x, by rw [e1, e2]; exact hx, rfl⟩
theorem ty_fst {x : α × β} (ha : Ty G c1 ta Γ (· = x)) (hb : Ty G c2 tb Γ (· = (0 : Int))) : Ty G (c1 + c2) (tOp (rIxT K) ta tb) Γ (· = x.1) :=
  ty_op ha hb fun x' y v w B ex ey hv hw z B' H e s Q q => by
    obtain ⟨p, a, b, rfl, h2, h3, h4⟩ := hv
    cases (show w = .int y from hw)
    subst ex ey
    exact ⟨p, [a, b], 0, a, rfl, rfl, st_of (s.ex _ _ (e _ _ h2)), rfl, q _ a z B' H rfl (.refl s) (Py.st _ _ _ _ e h3)⟩
theorem ty_snd {x : α × β} (ha : Ty G c1 ta Γ (· = x)) (hb : Ty G c2 tb Γ (· = (1 : Int))) : Ty G (c1 + c2) (tOp (rIxT K) ta tb) Γ (· = x.2) :=
  ty_op ha hb fun x' y v w B ex ey hv hw z B' H e s Q q => by
    obtain ⟨p, a, b, rfl, h2, h3, h4⟩ := hv
    cases (show w = .int y from hw)
    subst ex ey
    exact ⟨p, [a, b], 1, b, rfl, rfl, st_of (s.ex _ _ (e _ _ h2)), rfl, q _ b z B' H rfl (.refl s) (Py.st _ _ _ _ e h4)⟩
/-- a new list in the heap -/
theorem new_list {xs : List α} {vs : List V} {z : Int} {p : Addr} (s : At G z B H) (h : H p = none) (e : Each B xs vs) :
    Nx G 0 z B H z (upd B p (.lst vs)) (upd H p (.lst vs)) ∧ Py.is xs (.ref p) (upd B p (.lst vs)) := by
  have n := Nx.alloc (o := .lst vs) s h
  exact ⟨n, p, vs, rfl, upd_same, e.ex n.up⟩
theorem new_tup {x : α} {y : β} {v w : V} {z : Int} {p : Addr} (s : At G z B H) (h : H p = none) (h1 : Py.is x v B) (h2 : Py.is y w B) :
    Nx G 0 z B H z (upd B p (.tup [v, w])) (upd H p (.tup [v, w])) ∧ Py.is (x, y) (.ref p) (upd B p (.tup [v, w])) := by
  have n := Nx.alloc (o := .tup [v, w]) s h
  exact ⟨n, p, v, w, rfl, upd_same, Py.st _ _ _ _ n.up h1, Py.st _ _ _ _ n.up h2⟩
def TyL (G : Option Addr) (c : Nat) (ta : TA) (Γ : Ctx) {α : Type} [Py α] (A : List α → Prop) : Prop :=
  ∀ z B σ H, Slo B σ Γ → At G z B H → z + c ≤ 2 ^ 50 → ∀ Q : List V → Hp → Prop, (∀ xs vs z' B' H', A xs → Each B' xs vs → Nx G c z B H z' B' H' → Q vs H') → ta σ H Q
theorem tl_nil : TyL (α := α) G 0 tNil Γ (· = []) := fun z B σ H en s _ Q q => q [] [] z B H rfl .nil (.refl s)
theorem tl_consN {A : α → Prop} {A' : List α → Prop} (h : Ty G c1 te Γ A) (hr : TyL G c2 tr Γ A') : TyL G (c1 + c2) (tCons te tr) Γ (fun l => ∃ x xs, l = x :: xs ∧ A x ∧ A' xs) := fun z B σ H en s hz Q q => by
  refine h z B σ H en s (by omega) _ fun x v z1 B1 H1 ax n1 hv => ?_
  refine hr z1 B1 σ H1 (en.up n1.up) n1.at_ (by have := n1.hi; omega) _ fun xs vs z2 B2 H2 al ea n2 => ?_
  exact q _ _ z2 B2 H2 ⟨x, xs, rfl, ax, al⟩ (.cons (Py.st _ _ _ _ n2.up hv) ea) (n1.trans s n2)
theorem TyL.imp {A A' : List α → Prop} (h : TyL G c tr Γ A) (i : ∀ x, A x → A' x) : TyL G c tr Γ A' := fun z B σ H en s hz Q q => h z B σ H en s hz Q fun x v z' B' H' a => q x v z' B' H' (i x a)
theorem tl_cons {x : α} {xs : List α} (h : Ty G c1 te Γ (· = x)) (hr : TyL G c2 tr Γ (· = xs)) : TyL G (c1 + c2) (tCons te tr) Γ (· = x :: xs) :=
  (tl_consN h hr).imp fun l ⟨_, _, e, e1, e2⟩ => by rw [e, e1, e2]
theorem ty_lst {A : List α → Prop} (h : TyL G c tr Γ A) (small : ∀ xs, A xs → xs.length ≤ 100000) : Ty G c (tLst tr) Γ A := fun z B σ H en s hz Q q =>
  h z B σ H en s hz _ fun xs vs z1 B1 H1 ax ea n1 => ⟨sz_of (by rw [ea.len]; exact small xs ax), fun p hp => by
    obtain ⟨n2, is2⟩ := new_list n1.at_ hp ea
    exact q xs _ _ _ _ ax ((n1.trans s n2).le (by omega)) is2⟩
theorem ty_lit {xs : List α} (h : TyL G c tr Γ (· = xs)) (small : xs.length ≤ 100000) : Ty G c (tLst tr) Γ (· = xs) := ty_lst h fun _ e => by rw [e]; exact small
theorem ty_nil : Ty G 0 (tLst tNil) Γ (· = ([] : List α)) := ty_lit tl_nil (by simp)
theorem ty_tup2 {x : α} {y : β} (h1 : Ty G c1 ta Γ (· = x)) (h2 : Ty G c2 tb Γ (· = y)) : Ty G (c1 + c2) (tTup (tCons ta (tCons tb tNil))) Γ (· = (x, y)) := fun z B σ H en s hz Q q => by
  refine h1 z B σ H en s (by omega) _ fun x' v z1 B1 H1 ex n1 hv => ?_
  refine h2 z1 B1 σ H1 (en.up n1.up) n1.at_ (by have := n1.hi; omega) _ fun y' w z2 B2 H2 ey n2 hw => ?_
  subst ex ey
  refine ⟨sz_of (by simp), fun p hp => ?_⟩
  obtain ⟨n3, is3⟩ := new_tup n2.at_ hp (Py.st _ _ _ _ n2.up hv) hw
  exact q _ _ _ _ _ rfl (((n1.trans s n2).trans s n3).le (by omega)) is3
/-- slices -/
def cutL (xs : List α) (lo hi : Option Int) : List α := (xs.drop (HT.sIx xs.length 0 lo)).take (HT.sIx xs.length xs.length hi - HT.sIx xs.length 0 lo)
theorem Each.cut {xs : List α} {vs : List V} (h : Each B xs vs) (lo hi : Option Int) : Each B (cutL xs lo hi) (cutV vs lo hi) := by
  unfold cutL cutV
  rw [h.len]
  exact (h.drop _).take _
def TyO (G : Option Addr) (c : Nat) (to : TO) (Γ : Ctx) (o : Option Int) : Prop :=
  ∀ z B σ H, Slo B σ Γ → At G z B H → z + c ≤ 2 ^ 50 → ∀ Q : Option Int → Hp → Prop, (∀ z' B' H', Nx G c z B H z' B' H' → Q o H') → to σ H Q
theorem to_none : TyO G 0 tNoPart Γ none := fun z B σ H _ s _ Q q => q z B H (.refl s)
theorem to_some (h : Ty G c te Γ (· = i)) : TyO G c (tPart te) Γ (some i) := fun z B σ H en s hz Q q =>
  h z B σ H en s hz _ fun x v z' B' H' ex n hv => ⟨x, hv, by rw [ex]; exact q z' B' H' n⟩
theorem ty_sl {xs : List α} {tl th : TO} {lo hi : Option Int} (h : Ty G c1 te Γ (· = xs)) (h1 : TyO G c2 tl Γ lo) (h2 : TyO G c3 th Γ hi) : Ty G (c1 + c2 + c3) (tSl (rSlL K) te tl th) Γ (· = cutL xs lo hi) := fun z B σ H en s hz Q q => by
  refine h z B σ H en s (by omega) _ fun x v z1 B1 H1 ex n1 hv => ?_
  refine h1 z1 B1 σ H1 (en.up n1.up) n1.at_ (by have := n1.hi; omega) _ fun z2 B2 H2 n2 => ?_
  refine h2 z2 B2 σ H2 ((en.up n1.up).up n2.up) n2.at_ (by have := n1.hi; have := n2.hi; omega) _ fun z3 B3 H3 n3 => ?_
  subst ex
  obtain ⟨a, us, rfl, e1, e2⟩ := hv
  refine ⟨a, us, rfl, sq_of (n3.at_.ex _ _ (n3.up _ _ (n2.up _ _ e1))), fun p hp => ?_⟩
  obtain ⟨n4, is4⟩ := new_list n3.at_ hp (((e2.ex n2.up).ex n3.up).cut lo hi)
  exact q _ _ _ _ _ rfl ((((n1.trans s n2).trans s n3).trans s n4).le (by omega)) is4
theorem ty_catN {A A' : List α → Prop} (ha : Ty G c1 ta Γ A) (hb : Ty G c2 tb Γ A') (small : ∀ xs ys, A xs → A' ys → xs.length + ys.length ≤ 100000) : Ty G (c1 + c2) (tOp rCat ta tb) Γ (fun l => ∃ xs ys, A xs ∧ A' ys ∧ l = xs ++ ys) :=
  ty_op ha hb fun x y v w B ex ey hv hw z B' H e s Q q => by
    obtain ⟨p, us, rfl, h1, h2⟩ := hv
    obtain ⟨p', us', rfl, h1', h2'⟩ := hw
    refine ⟨p, p', us, us', rfl, rfl, s.ex _ _ (e _ _ h1), s.ex _ _ (e _ _ h1'), sz_of (by rw [h2.len, h2'.len]; exact small x y ex ey), fun r hr => ?_⟩
    obtain ⟨n, is⟩ := new_list s hr ((h2.ex e).app (h2'.ex e))
    exact q _ _ _ _ _ ⟨x, y, ex, ey, rfl⟩ n is
theorem ty_cat {xs ys : List α} (ha : Ty G c1 ta Γ (· = xs)) (hb : Ty G c2 tb Γ (· = ys)) (small : xs.length + ys.length ≤ 100000) : Ty G (c1 + c2) (tOp rCat ta tb) Γ (· = xs ++ ys) :=
  (ty_catN ha hb fun _ _ e1 e2 => by rw [e1, e2]; exact small).imp fun l ⟨_, _, e1, e2, e⟩ => by rw [e, e1, e2]
theorem Each.rep {xs : List α} {vs : List V} (h : Each B xs vs) : ∀ k : Nat, Each B (List.replicate k xs).flatten (List.replicate k vs).flatten
  | 0 => .nil
  | k + 1 => by
    rw [List.replicate_succ, List.replicate_succ, List.flatten_cons, List.flatten_cons]
    exact h.app (Each.rep h k)
theorem ty_rep {xs : List α} (ha : Ty G c1 ta Γ (· = xs)) (hb : Ty G c2 tb Γ (· = i)) (h0 : -(2 ^ 63) ≤ i ∧ i < 2 ^ 63) (small : xs.length * i.toNat ≤ 100000) : Ty G (c1 + c2) (tOp L2.rRep ta tb) Γ (· = (List.replicate i.toNat xs).flatten) :=
  ty_op ha hb fun x y v w B ex ey hv hw z B' H e s Q q => by
    obtain ⟨p, us, rfl, h1, h2⟩ := hv
    cases (show w = .int y from hw)
    subst ex ey
    refine ⟨p, y, us, rfl, rfl, s.ex _ _ (e _ _ h1), h0.1, h0.2, sz_of (by rw [h2.len]; exact small), fun r hr => ?_⟩
    obtain ⟨n, is⟩ := new_list s hr ((h2.ex e).rep y.toNat)
    exact q _ _ _ _ _ rfl n is
theorem inV_int (i : Int) : ∀ ns : List Int, inV (.int i) (ns.map V.int) = decide (i ∈ ns)
  | [] => rfl
  | n :: r => by
    have ih := inV_int i r
    unfold inV at ih ⊢
    rw [List.map_cons, List.any_cons, ih]
    have e : eqV (V.int n) (V.int i) = decide (i = n) := by
      show (n == i) = decide (i = n)
      rw [Bool.eq_iff_iff, beq_iff_eq, decide_eq_true_iff]
      exact eq_comm
    rw [e]
    simp
theorem all_flat_int : ∀ ns : List Int, (ns.map V.int).all flatV = true
  | [] => rfl
  | _ :: r => by rw [List.map_cons, List.all_cons, all_flat_int r] <;> rfl
theorem ty_in {ns : List Int} (ha : Ty G c1 ta Γ (· = i)) (hb : Ty G c2 tb Γ (· = ns)) : Ty G (c1 + c2) (tOp (rIn K false) ta tb) Γ (· = decide (i ∈ ns)) :=
  ty_op ha hb fun x y v w B ex ey hv hw z B' H e s Q q => by
    obtain ⟨p, rfl, h1⟩ := Py.ints hw
    cases (show v = .int x from hv)
    subst ex ey
    refine ⟨p, _, rfl, Or.inl (sq_of (s.ex _ _ (e _ _ h1))), rfl, all_flat_int y, q _ _ z B' H rfl (.refl s) ?_⟩
    rw [inV_int]
    rfl
theorem ty_notIn {ns : List Int} (ha : Ty G c1 ta Γ (· = i)) (hb : Ty G c2 tb Γ (· = ns)) : Ty G (c1 + c2) (tOp (rIn K true) ta tb) Γ (· = !decide (i ∈ ns)) :=
  ty_op ha hb fun x y v w B ex ey hv hw z B' H e s Q q => by
    obtain ⟨p, rfl, h1⟩ := Py.ints hw
    cases (show v = .int x from hv)
    subst ex ey
    refine ⟨p, _, rfl, Or.inl (sq_of (s.ex _ _ (e _ _ h1))), rfl, all_flat_int y, q _ _ z B' H rfl (.refl s) ?_⟩
    rw [inV_int]
    rfl
/-- a built-in function of one list of ints -/
theorem Alls.one {P : VP} {vs : List V} (h : Alls B [P] vs) : ∃ v, vs = [v] ∧ P v B := by
  cases h with
  | cons _ h r =>
    cases r
    exact ⟨_, rfl, h⟩
theorem Alls.two {P P' : VP} {vs : List V} (h : Alls B [P, P'] vs) : ∃ v w, vs = [v, w] ∧ P v B ∧ P' w B := by
  cases h with
  | cons _ h r =>
    obtain ⟨w, rfl, k⟩ := r.one
    exact ⟨_, w, rfl, h, k⟩
theorem Alls.three {P P' P'' : VP} {vs : List V} (h : Alls B [P, P', P''] vs) : ∃ v w u, vs = [v, w, u] ∧ P v B ∧ P' w B ∧ P'' u B := by
  cases h with
  | cons _ h r =>
    obtain ⟨w, u, rfl, k⟩ := r.two
    exact ⟨_, w, u, rfl, h, k⟩
theorem ty_sum {ns : List Int} (h : Ty G c ta Γ (· = ns)) : Ty G (c + 0) (tCB (rSum K) (tCons ta tNil)) Γ (· = ns.sum) :=
  ty_cb (ta_cons h ta_nil) fun vs B al z B' H e s Q q => by
    obtain ⟨v, rfl, hv⟩ := al.one
    obtain ⟨p, rfl, h1⟩ := Py.ints hv
    exact ⟨p, ns, rfl, sq_of (s.ex _ _ (e _ _ h1)), q _ _ z B' H rfl (.refl s) rfl⟩
theorem ty_min {ns : List Int} (h : Ty G c ta Γ (· = ns)) (h0 : 0 < ns.length) : Ty G (c + 0) (tCB (rMin K) (tCons ta tNil)) Γ (fun m => m ∈ ns ∧ ∀ y, y ∈ ns → m ≤ y) :=
  ty_cb (ta_cons h ta_nil) fun vs B al z B' H e s Q q => by
    obtain ⟨v, rfl, hv⟩ := al.one
    obtain ⟨p, rfl, h1⟩ := Py.ints hv
    exact ⟨p, ns, rfl, sq_of (s.ex _ _ (e _ _ h1)), h0, fun m h1 h2 => q _ _ z B' H ⟨h1, h2⟩ (.refl s) rfl⟩
theorem ty_max {ns : List Int} (h : Ty G c ta Γ (· = ns)) (h0 : 0 < ns.length) : Ty G (c + 0) (tCB (rMax K) (tCons ta tNil)) Γ (fun m => m ∈ ns ∧ ∀ y, y ∈ ns → y ≤ m) :=
  ty_cb (ta_cons h ta_nil) fun vs B al z B' H e s Q q => by
    obtain ⟨v, rfl, hv⟩ := al.one
    obtain ⟨p, rfl, h1⟩ := Py.ints hv
    exact ⟨p, ns, rfl, sq_of (s.ex _ _ (e _ _ h1)), h0, fun m h1 h2 => q _ _ z B' H ⟨h1, h2⟩ (.refl s) rfl⟩
theorem ty_sortedN {A : List Int → Prop} (h : Ty G c ta Γ A) : Ty G (c + 0) (tCB (rSortedI K) (tCons ta tNil)) Γ (fun l : List Int => ∃ ns : List Int, A ns ∧ l.Perm ns ∧ l.Pairwise (· ≤ ·)) :=
  ty_cb (ta_consN h ta_nil) fun vs B al z B' H e s Q q => by
    obtain ⟨v, rfl, ns, an, hv⟩ := al.one
    obtain ⟨p, rfl, h1⟩ := Py.ints hv
    refine ⟨p, ns, rfl, sq_of (s.ex _ _ (e _ _ h1)), fun ms r pm so hr => ?_⟩
    obtain ⟨n, is⟩ := new_list s hr (Each.of_ints ms)
    exact q ms _ _ _ _ ⟨ns, an, pm, so⟩ n is
theorem ty_all {bs : List Bool} (h : Ty G c ta Γ (· = bs)) : Ty G (c + 0) (tCB (rAll K) (tCons ta tNil)) Γ (· = bs.all id) :=
  ty_cb (ta_cons h ta_nil) fun vs B al z B' H e s Q q => by
    obtain ⟨v, rfl, p, us, rfl, h1, h2⟩ := al.one
    cases h2.bls
    exact ⟨p, bs, rfl, sq_of (s.ex _ _ (e _ _ h1)), q _ _ z B' H rfl (.refl s) rfl⟩
theorem ty_any {bs : List Bool} (h : Ty G c ta Γ (· = bs)) : Ty G (c + 0) (tCB (rAny K) (tCons ta tNil)) Γ (· = bs.any id) :=
  ty_cb (ta_cons h ta_nil) fun vs B al z B' H e s Q q => by
    obtain ⟨v, rfl, p, us, rfl, h1, h2⟩ := al.one
    cases h2.bls
    exact ⟨p, bs, rfl, sq_of (s.ex _ _ (e _ _ h1)), q _ _ z B' H rfl (.refl s) rfl⟩
def rInt1 : List V → Hp → VK → Prop := fun xs H Q => (∃ i, xs = [.int i] ∧ Q (.int i) H) ∨ ∃ k, xs = [.bl k] ∧ Q (.int (if k then 1 else 0)) H
theorem ty_int {A : Int → Prop} (h : Ty G c ta Γ A) : Ty G (c + 0) (tCB rInt1 (tCons ta tNil)) Γ A :=
  ty_cb (ta_consN h ta_nil) fun vs B al z B' H e s Q q => by
    obtain ⟨v, rfl, n, an, hv⟩ := al.one
    cases (show v = .int n from hv)
    exact .inl ⟨n, rfl, q n _ z B' H an (.refl s) rfl⟩
theorem ty_intB {b : Bool} (h : Ty G c ta Γ (· = b)) : Ty G (c + 0) (tCB rInt1 (tCons ta tNil)) Γ (· = if b then (1 : Int) else 0) :=
  ty_cb (ta_cons h ta_nil) fun vs B al z B' H e s Q q => by
    obtain ⟨v, rfl, hv⟩ := al.one
    cases (show v = .bl b from hv)
    exact .inr ⟨b, rfl, q _ _ z B' H rfl (.refl s) rfl⟩
theorem ty_max2 (h1 : Ty G c1 ta Γ (· = i)) (h2 : Ty G c2 tb Γ (· = j)) : Ty G (c1 + (c2 + 0)) (tCB rMax2 (tCons ta (tCons tb tNil))) Γ (· = if j > i then j else i) :=
  ty_cb (ta_cons h1 (ta_cons h2 ta_nil)) fun vs B al z B' H e s Q q => by
    obtain ⟨v, w, rfl, hv, hw⟩ := al.two
    cases (show v = .int i from hv)
    cases (show w = .int j from hw)
    exact ⟨i, j, rfl, q _ _ z B' H rfl (.refl s) rfl⟩
def rMin2 : List V → Hp → VK → Prop := fun xs H Q => ∃ i j, xs = [.int i, .int j] ∧ Q (.int (if j < i then j else i)) H
theorem ty_min2 (h1 : Ty G c1 ta Γ (· = i)) (h2 : Ty G c2 tb Γ (· = j)) : Ty G (c1 + (c2 + 0)) (tCB rMin2 (tCons ta (tCons tb tNil))) Γ (· = if j < i then j else i) :=
  ty_cb (ta_cons h1 (ta_cons h2 ta_nil)) fun vs B al z B' H e s Q q => by
    obtain ⟨v, w, rfl, hv, hw⟩ := al.two
    cases (show v = .int i from hv)
    cases (show w = .int j from hw)
    exact ⟨i, j, rfl, q _ _ z B' H rfl (.refl s) rfl⟩
theorem ty_listOf {xs : List α} (h : Ty G c ta Γ (· = xs)) : Ty G (c + 0) (tCB (rListS K) (tCons ta tNil)) Γ (· = xs) :=
  ty_cb (ta_cons h ta_nil) fun vs B al z B' H e s Q q => by
    obtain ⟨v, rfl, p, us, rfl, h1, h2⟩ := al.one
    refine ⟨p, us, rfl, Or.inl (sq_of (s.ex _ _ (e _ _ h1))), fun r hr => ?_⟩
    obtain ⟨n, is⟩ := new_list s hr (h2.ex e)
    exact q _ _ _ _ _ rfl n is
theorem ty_rev {xs : List α} (h : Ty G c te Γ (· = xs)) : Ty G c (tRevL K te) Γ (· = xs.reverse) := fun z B σ H en s hz Q q => by
  refine h z B σ H en s hz _ fun x v z1 B1 H1 ex n1 hv => ?_
  subst ex
  obtain ⟨a, us, rfl, e1, e2⟩ := hv
  refine ⟨a, us, rfl, sq_of (n1.at_.ex _ _ e1), fun p hp => ?_⟩
  obtain ⟨n4, is4⟩ := new_list n1.at_ hp e2.rev
  exact q _ _ _ _ _ rfl ((n1.trans s n4).le (by omega)) is4
end
end AP

set_option maxHeartbeats 4000000
/-! Promises of defs, statements, loops and comprehensions over W1's judgements. -/
namespace AP
open PySem PySem.Spec PyProof.Rows L2 Evl

/-! ### promises -/
/-- what a def is called with, in which generator, what it costs, what it gives -/
structure Con (ι β : Type) [Py β] where
  args : ι → List VP
  pre : ι → Option Addr → Prop
  c : ι → Nat
  post : ι → β → Prop
def Con.sp {ι β : Type} [Py β] (C : Con ι β) : Sp := fun vs H Q _ => ∃ i G z B, Alls B (C.args i) vs ∧ C.pre i G ∧ At G z B H ∧ z + C.c i ≤ 2 ^ 50 ∧
  ∀ y w z' B' H', C.post i y → Nx G (C.c i) z B H z' B' H' → Py.is y w B' → Q w H'
section
variable {K : PySem.W.Frag} {G : Option Addr} {c c1 c2 c3 : Nat} {te ta tb tx : TE} {tt tu : TT} {Γ : Ctx} {ι α β γ : Type} [Py α] [Py β] [Py γ] {A A' : α → Prop} {A1 : β → Prop} {Ps : List VP} {tr : TA} {B B' H : Hp} {v w : V}
theorem ty_callN {C : Con ι β} {dvs : List V} {E : XK} (h : TyA G c1 tr Γ Ps) (k : ∀ vs B, Alls B Ps vs → ∃ i, Alls B (C.args i) (vs ++ dvs) ∧ C.pre i G ∧ C.c i ≤ c2 ∧ ∀ y, C.post i y → A1 y) :
    Ty G (c1 + c2) (tCall C.sp dvs E tr) Γ A1 := fun z B σ H en s hz Q q => by
  refine h z B σ H en s (by omega) _ fun vs z1 B1 H1 al n1 => ?_
  obtain ⟨i, h1, h2, h3, h4⟩ := k vs B1 al
  exact ⟨i, G, z1, B1, h1, h2, n1.at_, by have := n1.hi; omega, fun y w z2 B2 H2 py n2 hw => q y w z2 B2 H2 (h4 y py) (n1.trans s (n2.le h3)) hw⟩
theorem ty_call {C : Con ι β} {E : XK} (i : ι) (h : TyA G c1 tr Γ (C.args i)) (p : C.pre i G) : Ty G (c1 + C.c i) (tCall C.sp [] E tr) Γ (C.post i) :=
  ty_callN h fun vs B al => ⟨i, by rw [List.append_nil]; exact al, p, Nat.le_refl _, fun _ h => h⟩
/-- by keywords: gV orders them -/
theorem ty_callK {C : Con ι β} {E : XK} {gV : List V → List V → List V} {tk : TA} (i : ι) {Ps Ks : List VP} (h : TyA G c1 tr Γ Ps) (hk : TyA G c2 tk Γ Ks) (p : C.pre i G) (ord : ∀ vs ks B, Alls B Ps vs → Alls B Ks ks → Alls B (C.args i) (gV vs ks)) :
    Ty G (c1 + c2 + C.c i) (tCallK C.sp gV E tr tk) Γ (C.post i) := fun z B σ H en s hz Q q => by
  refine h z B σ H en s (by omega) _ fun vs z1 B1 H1 al n1 => ?_
  refine hk z1 B1 σ H1 (en.up n1.up) n1.at_ (by have := n1.hi; omega) _ fun ks z2 B2 H2 al2 n2 => ?_
  exact ⟨i, G, z2, B2, ord vs ks B2 (al.ex n2.up) al2, p, n2.at_, by have := n1.hi; have := n2.hi; omega, fun y w z3 B3 H3 py n3 hw => q y w z3 B3 H3 py ((n1.trans s n2).trans s n3) hw⟩
end

/-! ### statements: where one stands, n from the def's start -/
section
variable {K : PySem.W.Frag} {G : Option Addr} {c c0 c1 c2 c3 : Nat} {te ta tb tx : TE} {tt : TT} {Γ : Ctx} {ι α β γ : Type} [Py α] [Py β] [Py γ] {A : α → Prop} {A1 : β → Prop} {Ps : List VP} {tr : TA} {B B' H B0 H0 : Hp} {v w : V}
  {σ : L2.St} {z z0 : Int} {D : Ends} {t t1 t2 tz : TS} {g : TG}
theorem q_asg (s0 : At G z0 B0 H0) (n : Nx G c0 z0 B0 H0 z B H) (en : Slo B σ Γ) {i : Nat} (h : Ty G c te Γ A) (hz : z0 + (c0 + c) ≤ 2 ^ 50)
    (k : ∀ x z' B' H' σ', A x → Nx G c z B H z' B' H' → Nx G (c0 + c) z0 B0 H0 z' B' H' → Slo B' σ' (Γ.set i (some (Py.is x))) → D.nx σ' H') : tAsg te (gName i) D σ H :=
  h z B σ H en n.at_ (by have := n.hi; omega) _ fun x v z' B' H' ax n' hv => k x z' B' H' _ ax n' (n.trans s0 n') ((en.up n'.up).put hv)
theorem q_asgS (s0 : At G z0 B0 H0) (n : Nx G c0 z0 B0 H0 z B H) (en : Slo B σ Γ) {i : Nat} (h : Ty G c te Γ A) (hz : z0 + (c0 + c) ≤ 2 ^ 50)
    (k : ∀ x z' B' H' σ', A x → Nx G c z B H z' B' H' → Nx G (c0 + c) z0 B0 H0 z' B' H' → Slo B' σ' (Γ.set i (some (Py.is x))) → tz D σ' H') : tSeq (tAsg te (gName i)) tz D σ H :=
  q_asg (D := { D with nx := tz D }) s0 n en h hz k
theorem q_drop (s0 : At G z0 B0 H0) (n : Nx G c0 z0 B0 H0 z B H) (en : Slo B σ Γ) (h : Ty G c te Γ A) (hz : z0 + (c0 + c) ≤ 2 ^ 50)
    (k : ∀ x z' B' H', A x → Nx G c z B H z' B' H' → Nx G (c0 + c) z0 B0 H0 z' B' H' → Slo B' σ Γ → D.nx σ H') : tDrop te D σ H :=
  h z B σ H en n.at_ (by have := n.hi; omega) _ fun x v z' B' H' ax n' hv => k x z' B' H' ax n' (n.trans s0 n') (en.up n'.up)
theorem q_dropS (s0 : At G z0 B0 H0) (n : Nx G c0 z0 B0 H0 z B H) (en : Slo B σ Γ) (h : Ty G c te Γ A) (hz : z0 + (c0 + c) ≤ 2 ^ 50)
    (k : ∀ x z' B' H', A x → Nx G c z B H z' B' H' → Nx G (c0 + c) z0 B0 H0 z' B' H' → Slo B' σ Γ → tz D σ H') : tSeq (tDrop te) tz D σ H :=
  q_drop (D := { D with nx := tz D }) s0 n en h hz k
theorem q_ret (s0 : At G z0 B0 H0) (n : Nx G c0 z0 B0 H0 z B H) (en : Slo B σ Γ) (h : Ty G c te Γ A) (hz : z0 + (c0 + c) ≤ 2 ^ 50)
    (k : ∀ x v z' B' H', A x → Nx G (c0 + c) z0 B0 H0 z' B' H' → Py.is x v B' → D.rt v H') : tRet te D σ H :=
  h z B σ H en n.at_ (by have := n.hi; omega) _ fun x v z' B' H' ax n' hv => k x v z' B' H' ax (n.trans s0 n') hv
theorem q_if {Ab : Bool → Prop} (s0 : At G z0 B0 H0) (n : Nx G c0 z0 B0 H0 z B H) (en : Slo B σ Γ) (h : TyT G c tt Γ Ab) (hz : z0 + (c0 + c) ≤ 2 ^ 50)
    (k1 : Ab true → ∀ z' B' H', Nx G c z B H z' B' H' → Nx G (c0 + c) z0 B0 H0 z' B' H' → Slo B' σ Γ → t1 D σ H')
    (k2 : Ab false → ∀ z' B' H', Nx G c z B H z' B' H' → Nx G (c0 + c) z0 B0 H0 z' B' H' → Slo B' σ Γ → t2 D σ H') : tIfS tt t1 t2 D σ H :=
  h z B σ H en n.at_ (by have := n.hi; omega) _ fun b z' B' H' ab n' => by
    cases b with
    | true => exact k1 ab z' B' H' n' (n.trans s0 n') (en.up n'.up)
    | false => exact k2 ab z' B' H' n' (n.trans s0 n') (en.up n'.up)
theorem q_ifS {Ab : Bool → Prop} (s0 : At G z0 B0 H0) (n : Nx G c0 z0 B0 H0 z B H) (en : Slo B σ Γ) (h : TyT G c tt Γ Ab) (hz : z0 + (c0 + c) ≤ 2 ^ 50)
    (k1 : Ab true → ∀ z' B' H', Nx G c z B H z' B' H' → Nx G (c0 + c) z0 B0 H0 z' B' H' → Slo B' σ Γ → t1 { D with nx := tz D } σ H')
    (k2 : Ab false → ∀ z' B' H', Nx G c z B H z' B' H' → Nx G (c0 + c) z0 B0 H0 z' B' H' → Slo B' σ Γ → t2 { D with nx := tz D } σ H') : tSeq (tIfS tt t1 t2) tz D σ H :=
  q_if (D := { D with nx := tz D }) s0 n en h hz k1 k2
/-- if c: return .. (no else), c deterministic -/
theorem q_when {b : Bool} (s0 : At G z0 B0 H0) (n : Nx G c0 z0 B0 H0 z B H) (en : Slo B σ Γ) (h : TyT G c tt Γ (· = b)) (hz : z0 + (c0 + c) ≤ 2 ^ 50)
    (k1 : b = true → ∀ z' B' H', Nx G c z B H z' B' H' → Nx G (c0 + c) z0 B0 H0 z' B' H' → Slo B' σ Γ → t1 { D with nx := tz D } σ H')
    (k2 : b = false → ∀ z' B' H', Nx G c z B H z' B' H' → Nx G (c0 + c) z0 B0 H0 z' B' H' → Slo B' σ Γ → tz D σ H') : tSeq (tIfS tt t1 tNext) tz D σ H :=
  q_ifS s0 n en h hz (fun e => k1 e.symm) (fun e => k2 e.symm)
/-- a check that never holds -/
theorem q_not (s0 : At G z0 B0 H0) (n : Nx G c0 z0 B0 H0 z B H) (en : Slo B σ Γ) (h : TyT G c tt Γ (· = false)) (hz : z0 + (c0 + c) ≤ 2 ^ 50)
    (k2 : ∀ z' B' H', Nx G c z B H z' B' H' → Nx G (c0 + c) z0 B0 H0 z' B' H' → Slo B' σ Γ → tz D σ H') : tSeq (tIfS tt t1 tNext) tz D σ H :=
  q_when s0 n en h hz (fun e => Bool.noConfusion e) (fun _ => k2)
theorem s_not (s0 : At G z0 B0 H0) (n : Nx G c0 z0 B0 H0 z B H) (en : Slo B σ Γ) (h : TyT G c tt Γ (· = false)) (hz : z0 + (c0 + c) ≤ 2 ^ 50)
    (k2 : ∀ z' B' H', Nx G c z B H z' B' H' → Nx G (c0 + c) z0 B0 H0 z' B' H' → Slo B' σ Γ → D.nx σ H') : tIfS tt t1 tNext D σ H :=
  q_if s0 n en h hz (fun e => Bool.noConfusion e) (fun _ => k2)
/-- a, b = e1, e2 -/
theorem q_par {i j : Nat} {c1 c2 : Nat} (s0 : At G z0 B0 H0) (n : Nx G c0 z0 B0 H0 z B H) (en : Slo B σ Γ) (h1 : Ty G c1 ta Γ A) (h2 : Ty G c2 tb Γ A1) (hz : z0 + (c0 + (c1 + c2)) ≤ 2 ^ 50)
    (k : ∀ x y z' B' H' σ', A x → A1 y → Nx G (c1 + c2) z B H z' B' H' → Nx G (c0 + (c1 + c2)) z0 B0 H0 z' B' H' → Slo B' σ' ((Γ.set i (some (Py.is x))).set j (some (Py.is y))) → tz D σ' H') :
    tSeq (tPar i j (tCons ta (tCons tb tNil))) tz D σ H := by
  refine h1 z B σ H en n.at_ (by have := n.hi; omega) _ fun x v z1 B1 H1 ax n1 hv => ?_
  refine h2 z1 B1 σ H1 (en.up n1.up) n1.at_ (by have := n.hi; have := n1.hi; omega) _ fun y w z2 B2 H2 ay n2 hw => ?_
  have nn := n1.trans n.at_ n2
  exact ⟨v, w, rfl, k x y z2 B2 H2 _ ax ay nn (n.trans s0 nn) (((en.up nn.up).put (Py.st _ _ _ _ n2.up hv)).put hw)⟩
/-- a, b = (e1, e2) through a tuple -/
theorem q_parT {i j : Nat} {c1 c2 : Nat} (s0 : At G z0 B0 H0) (n : Nx G c0 z0 B0 H0 z B H) (en : Slo B σ Γ) (h1 : Ty G c1 ta Γ A) (h2 : Ty G c2 tb Γ A1) (hz : z0 + (c0 + (c1 + c2)) ≤ 2 ^ 50)
    (k : ∀ x y z' B' H' σ', A x → A1 y → Nx G (c1 + c2) z B H z' B' H' → Nx G (c0 + (c1 + c2)) z0 B0 H0 z' B' H' → Slo B' σ' ((Γ.set i (some (Py.is x))).set j (some (Py.is y))) → tz D σ' H') :
    tSeq (tAsg (tTup (tCons ta (tCons tb tNil))) (gTup K 2 (gCons (gName i) (gCons (gName j) gNil)))) tz D σ H := by
  refine h1 z B σ H en n.at_ (by have := n.hi; omega) _ fun x v z1 B1 H1 ax n1 hv => ?_
  refine h2 z1 B1 σ H1 (en.up n1.up) n1.at_ (by have := n.hi; have := n1.hi; omega) _ fun y w z2 B2 H2 ay n2 hw => ?_
  have nn := n1.trans n.at_ n2
  refine ⟨sz_of (by simp), fun p hp => ⟨p, [v, w], rfl, st_of upd_same, rfl, v, _, rfl, w, _, rfl, rfl, ?_⟩⟩
  have n3 := nn.trans n.at_ (Nx.more n2.at_ (Ex.new (o := .tup [v, w]) hp))
  exact k x y z2 B2 _ _ ax ay n3 (n.trans s0 n3) (((en.up nn.up).put (Py.st _ _ _ _ n2.up hv)).put hw)
theorem q_par3T {i j l : Nat} {c1 c2 c3 : Nat} {A2 : γ → Prop} {tc : TE} (s0 : At G z0 B0 H0) (n : Nx G c0 z0 B0 H0 z B H) (en : Slo B σ Γ) (h1 : Ty G c1 ta Γ A) (h2 : Ty G c2 tb Γ A1) (h3 : Ty G c3 tc Γ A2) (hz : z0 + (c0 + (c1 + c2 + c3)) ≤ 2 ^ 50)
    (k : ∀ x y u z' B' H' σ', A x → A1 y → A2 u → Nx G (c1 + c2 + c3) z B H z' B' H' → Nx G (c0 + (c1 + c2 + c3)) z0 B0 H0 z' B' H' → Slo B' σ' (((Γ.set i (some (Py.is x))).set j (some (Py.is y))).set l (some (Py.is u))) → tz D σ' H') :
    tSeq (tAsg (tTup (tCons ta (tCons tb (tCons tc tNil)))) (gTup K 3 (gCons (gName i) (gCons (gName j) (gCons (gName l) gNil))))) tz D σ H := by
  refine h1 z B σ H en n.at_ (by have := n.hi; omega) _ fun x v z1 B1 H1 ax n1 hv => ?_
  refine h2 z1 B1 σ H1 (en.up n1.up) n1.at_ (by have := n.hi; have := n1.hi; omega) _ fun y w z2 B2 H2 ay n2 hw => ?_
  have nn := n1.trans n.at_ n2
  refine h3 z2 B2 σ H2 (en.up nn.up) n2.at_ (by have := n.hi; have := nn.hi; omega) _ fun u m z3 B3 H3 au n3 hm => ?_
  have nm := nn.trans n.at_ n3
  refine ⟨sz_of (by simp), fun p hp => ⟨p, [v, w, m], rfl, st_of upd_same, rfl, v, _, rfl, w, _, rfl, m, _, rfl, rfl, ?_⟩⟩
  have n4 := nm.trans n.at_ (Nx.more n3.at_ (Ex.new (o := .tup [v, w, m]) hp))
  exact k x y u z3 B3 _ _ ax ay au n4 (n.trans s0 n4) ((((en.up nm.up).put (Py.st _ _ _ _ (n2.up.trans n3.up) hv)).put (Py.st _ _ _ _ n3.up hw)).put hm)

/-! ### what loops and comprehensions go over -/
/-- the turns' items: what each one does to the slots -/
structure Src (J : It) (g : TG) (B : Hp) (js : List Nat) (n : Nat) (F : Nat → Ctx → Ctx) : Prop where
  stop : ∀ H, Ex B H → J.stop n H
  go : ∀ i, i < n → ∀ H, Ex B H → J.go i H
  yld : ∀ i, i < n → ∀ x H H', Ex B H → J.yld i H x H' → Ex H H' ∧ ∀ σ Γ Bc, Slo Bc σ Γ → Ex B Bc → Ex Bc H → ∀ Q : L2.St → Hp → Prop,
    (∀ σ', Slo Bc σ' (F i Γ) → (∀ vs, (∀ j ∈ js, j ∈ vs) → L2.wipe σ' vs = L2.wipe σ vs) → Q σ' H') → g x σ H' Q
def TyI (G : Option Addr) (c : Nat) (wi : TI) (g : TG) (Γ : Ctx) (js : List Nat) (An : Nat → Prop) (F : Nat → Ctx → Ctx) : Prop :=
  ∀ z B σ H, Slo B σ Γ → At G z B H → z + c ≤ 2 ^ 50 → ∀ R : It → Hp → Prop, (∀ J n z' B' H', An n → Nx G c z B H z' B' H' → Src J g B' js n F → R J H') → wi σ H R
theorem wipe_set (σ : L2.St) (j : Nat) (x : Option V) : ∀ vs : List Nat, j ∈ vs → L2.wipe (σ.set j x) vs = L2.wipe σ vs
  | v :: vs, h => by
    unfold L2.wipe
    by_cases e : j ∈ vs
    · rw [wipe_set σ j x vs e]
    · have ev : j = v := by
        rcases List.mem_cons.mp h with h | h
        · exact h
        · exact absurd h e
      subst ev
      clear h
      have : ∀ us : List Nat, (L2.wipe (σ.set j x) us).set j none = (L2.wipe σ us).set j none := by
        intro us
        induction us with
        | nil => show (σ.set j x).set j none = σ.set j none; rw [List.set_set]
        | cons u us ih =>
          unfold L2.wipe
          by_cases k : u = j
          · subst k
            rw [List.set_set, List.set_set]
            exact ih
          · rw [List.set_comm _ _ k, List.set_comm _ _ k, ih]
      exact this vs
theorem src_name {J : It} {j n : Nat} {f : Nat → VP} (st : ∀ i, Stays (f i)) (h1 : ∀ H, Ex B H → J.stop n H) (h2 : ∀ i, i < n → ∀ H, Ex B H → J.go i H)
    (h3 : ∀ i, i < n → ∀ x H H', Ex B H → J.yld i H x H' → H' = H ∧ f i x B) : Src J (gName j) B [j] n (fun i Γ => Γ.set j (some (f i))) :=
  ⟨h1, h2, fun i hi x H H' e y => by
    obtain ⟨rfl, p⟩ := h3 i hi x H H' e y
    refine ⟨Ex.refl _, fun σ Γ Bc en eb ec Q q => q _ (en.set (st i) (st i _ _ _ eb p)) fun vs hv => wipe_set σ j _ vs (hv j (by simp))⟩⟩
/-- the item at a turn -/
def itm {α : Type} [Py α] (xs : List α) (i : Nat) : VP := fun v B => ∃ x, xs[i]? = some x ∧ Py.is x v B
theorem itm_st {xs : List α} (i : Nat) : Stays (itm xs i) := fun _ _ _ e ⟨x, h1, h2⟩ => ⟨x, h1, Py.st _ _ _ _ e h2⟩
theorem itm_eq {xs : List α} {i : Nat} {x : α} (h : xs[i]? = some x) : itm xs i = Py.is x := by
  funext v B
  refine propext ⟨fun ⟨y, h1, h2⟩ => ?_, fun h2 => ⟨x, h, h2⟩⟩
  rw [h] at h1
  cases h1
  exact h2
theorem ti_list {xs : List α} {tl : TE} {j : Nat} (h : Ty G c tl Γ (· = xs)) : TyI G c (iList K tl) (gName j) Γ [j] (· = xs.length) (fun i Γ => Γ.set j (some (itm xs i))) := fun z B σ H en s hz R r => by
  refine h z B σ H en s hz _ fun x v z1 B1 H1 ex n1 hv => ?_
  subst ex
  obtain ⟨p, us, rfl, e1, e2⟩ := hv
  refine ⟨p, rfl, ⟨us, sq_of (n1.at_.ex _ _ e1)⟩, r _ _ z1 B1 H1 rfl n1 (src_name itm_st (fun H e => ⟨us, sq_of (e _ _ e1), Nat.le_of_eq e2.len⟩) (fun i hi H e => ?_) fun i hi x' H H' e y => ?_)⟩
  · have lt : i < us.length := by rw [e2.len]; exact hi
    exact ⟨us, us[i], sq_of (e _ _ e1), List.getElem?_eq_getElem lt⟩
  · obtain ⟨q1, q2⟩ := y
    exact ⟨q1, e2.got (q2 us (sq_of (e _ _ e1)))⟩
theorem ti_rng1 {n : Int} {j : Nat} (h : TyA G c tr Γ [Py.is n]) (hn : -(2 ^ 62) ≤ n ∧ n < 2 ^ 62) : TyI G c (iRng1 tr) (gName j) Γ [j] (· = n.toNat) (fun i Γ => Γ.set j (some (Py.is (i : Int)))) := fun z B σ H en s hz R r => by
  refine h z B σ H en s hz _ fun vs z1 B1 H1 al n1 => ?_
  obtain ⟨v, rfl, hv⟩ := al.one
  cases (show v = .int n from hv)
  exact ⟨n, rfl, hn.1, hn.2, r _ _ z1 B1 H1 rfl n1 (src_name (fun i => Py.stays (i : Int)) (fun H e => Nat.le_refl _) (fun i hi H e => hi) fun i hi x' H H' e y => ⟨y.1, by rw [y.2]; show V.int _ = V.int _; rw [Int.zero_add]⟩)⟩
theorem ti_rng2 {lo n : Int} {j : Nat} (h : TyA G c tr Γ [Py.is lo, Py.is n]) (h1 : -(2 ^ 62) ≤ lo ∧ lo < 2 ^ 62) (hn : -(2 ^ 62) ≤ n ∧ n < 2 ^ 62) : TyI G c (iRng2 tr) (gName j) Γ [j] (· = (n - lo).toNat) (fun i Γ => Γ.set j (some (Py.is (lo + (i : Int))))) := fun z B σ H en s hz R r => by
  refine h z B σ H en s hz _ fun vs z1 B1 H1 al n1 => ?_
  obtain ⟨v, w, rfl, hv, hw⟩ := al.two
  cases (show v = .int lo from hv)
  cases (show w = .int n from hw)
  exact ⟨lo, n, rfl, ⟨h1.1, h1.2, hn.1, hn.2⟩, r _ _ z1 B1 H1 rfl n1 (src_name (fun i => Py.stays (lo + (i : Int))) (fun H e => Nat.le_refl _) (fun i hi H e => hi) fun i hi x' H H' e y => ⟨y.1, y.2⟩)⟩
theorem ti_rev {xs : List α} {tl : TE} {j : Nat} (h : Ty G c tl Γ (· = xs)) : TyI G c (RT.iRevA K tl) (gName j) Γ [j] (· = xs.length) (fun i Γ => Γ.set j (some (itm xs (xs.length - 1 - i)))) := fun z B σ H en s hz R r => by
  refine h z B σ H en s hz _ fun x v z1 B1 H1 ex n1 hv => ?_
  subst ex
  obtain ⟨p, us, rfl, e1, e2⟩ := hv
  refine ⟨p, us, rfl, Or.inl ⟨sq_of (n1.at_.ex _ _ e1), r _ _ z1 B1 H1 rfl n1 (src_name (fun i => itm_st _) (fun H e => Nat.le_of_eq e2.len) (fun i hi H e => ?_) fun i hi x' H H' e y => ?_)⟩⟩
  · have lt : us.length - 1 - i < us.length := by rw [e2.len]; omega
    exact ⟨by rw [e2.len]; exact hi, us, us[us.length - 1 - i], sq_of (e _ _ e1), List.getElem?_eq_getElem lt⟩
  · obtain ⟨q1, q2⟩ := y
    have := e2.got (q2 us (sq_of (e _ _ e1)))
    rw [e2.len] at this
    exact ⟨q1, this⟩
/-- two names from a tuple that is made on the way -/
theorem src_two {J : It} {j k n : Nat} {f f' : Nat → VP} (st : ∀ i, Stays (f i)) (st' : ∀ i, Stays (f' i)) (h1 : ∀ H, Ex B H → J.stop n H) (h2 : ∀ i, i < n → ∀ H, Ex B H → J.go i H)
    (h3 : ∀ i, i < n → ∀ x H H', Ex B H → J.yld i H x H' → ∃ T a b, x = .ref T ∧ H T = none ∧ H' = upd H T (.tup [a, b]) ∧ f i a B ∧ f' i b B) :
    Src J (gTup K 2 (gCons (gName j) (gCons (gName k) gNil))) B [j, k] n (fun i Γ => (Γ.set j (some (f i))).set k (some (f' i))) :=
  ⟨h1, h2, fun i hi x H H' e y => by
    obtain ⟨T, a, b, rfl, nT, rfl, p, p'⟩ := h3 i hi x H H' e y
    refine ⟨Ex.new nT, fun σ Γ Bc en eb ec Q q => ⟨T, [a, b], rfl, st_of upd_same, rfl, a, _, rfl, b, _, rfl, rfl, ?_⟩⟩
    refine q _ ((en.set (st i) (st i _ _ _ eb p)).set (st' i) (st' i _ _ _ eb p')) fun vs hv => ?_
    rw [wipe_set _ k _ vs (hv k (by simp)), wipe_set _ j _ vs (hv j (by simp))]⟩
theorem ti_enum {xs : List α} {tr : TA} {j k : Nat} (h : TyA G c tr Γ [Py.is xs]) : TyI G c (iEnum K tr) (gTup K 2 (gCons (gName j) (gCons (gName k) gNil))) Γ [j, k] (· = xs.length) (fun i Γ => (Γ.set j (some (Py.is (i : Int)))).set k (some (itm xs i))) := fun z B σ H en s hz R r => by
  refine h z B σ H en s hz _ fun vs z1 B1 H1 al n1 => ?_
  obtain ⟨v, rfl, hv⟩ := al.one
  obtain ⟨p, us, rfl, e1, e2⟩ := hv
  refine ⟨p, us, rfl, sq_of (n1.at_.ex _ _ e1), r _ _ z1 B1 H1 rfl n1 (src_two (fun i => Py.stays (i : Int)) itm_st (fun H e => ⟨us, sq_of (e _ _ e1), Nat.le_of_eq e2.len⟩) (fun i hi H e => ?_) fun i hi x' H H' e y => ?_)⟩
  · have lt : i < us.length := by rw [e2.len]; exact hi
    exact ⟨us, us[i], sq_of (e _ _ e1), List.getElem?_eq_getElem lt⟩
  · obtain ⟨T, x, q1, q2, q3, q4⟩ := y
    exact ⟨T, _, x, q1, q2, q3, rfl, e2.got (q4 us (sq_of (e _ _ e1)))⟩
theorem ti_zip {xs : List α} {ys : List β} {tr : TA} {j k : Nat} (h : TyA G c tr Γ [Py.is xs, Py.is ys]) :
    TyI G c (iZip K tr) (gTup K 2 (gCons (gName j) (gCons (gName k) gNil))) Γ [j, k] (· = min xs.length ys.length) (fun i Γ => (Γ.set j (some (itm xs i))).set k (some (itm ys i))) := fun z B σ H en s hz R r => by
  refine h z B σ H en s hz _ fun vs z1 B1 H1 al n1 => ?_
  obtain ⟨v, w, rfl, hv, hw⟩ := al.two
  obtain ⟨p, us, rfl, e1, e2⟩ := hv
  obtain ⟨p', us', rfl, e1', e2'⟩ := hw
  have l1 := e2.len
  have l2 := e2'.len
  refine ⟨p, p', us, us', rfl, sq_of (n1.at_.ex _ _ e1), sq_of (n1.at_.ex _ _ e1'), r _ _ z1 B1 H1 rfl n1 (src_two itm_st itm_st (fun H e => ⟨us, us', sq_of (e _ _ e1), sq_of (e _ _ e1'), by omega⟩) (fun i hi H e => ?_) fun i hi x' H H' e y => ?_)⟩
  · have lt : i < us.length := by omega
    have lt' : i < us'.length := by omega
    exact ⟨us, us', us[i], us'[i], sq_of (e _ _ e1), sq_of (e _ _ e1'), List.getElem?_eq_getElem lt, List.getElem?_eq_getElem lt'⟩
  · obtain ⟨T, x, x2, q1, q2, q3, q4, q5⟩ := y
    exact ⟨T, x, x2, q1, q2, q3, e2.got (q4 us (sq_of (e _ _ e1))), e2'.got (q5 us' (sq_of (e _ _ e1')))⟩

/-! ### loops -/
/-- the loop's word at a turn -/
def Lw (G : Option Addr) (z0 : Int) (B0 H0 Bs : Hp) (cc cb : Nat) (Inv : Nat → Ctx → Hp → Hp → Prop) (i : Nat) (σ : L2.St) (H : Hp) : Prop :=
  ∃ Γ z B, Inv i Γ B H ∧ Ex Bs B ∧ Nx G (cc + i * cb) z0 B0 H0 z B H ∧ Slo B σ Γ
theorem q_for {wi : TI} {js : List Nat} {cb : Nat} {An : Nat → Prop} {F : Nat → Ctx → Ctx} (s0 : At G z0 B0 H0) (n : Nx G c0 z0 B0 H0 z B H) (en : Slo B σ Γ) (h : TyI G c wi g Γ js An F) (hz : z0 + (c0 + c) ≤ 2 ^ 50)
    (Inv : Nat → Ctx → Hp → Hp → Prop)
    (h0 : ∀ z' B' H', Nx G c z B H z' B' H' → Slo B' σ Γ → Inv 0 Γ B' H')
    (up : ∀ i Γ B H H', Inv i Γ B H → Ex H H' → Inv i Γ B H')
    (hs : ∀ m, An m → ∀ Bs i Γ' z' B' H' σ', i < m → Inv i Γ' B' H' → Ex Bs B' → Nx G (c0 + c + i * cb) z0 B0 H0 z' B' H' → Slo B' σ' (F i Γ') →
      t { D with nx := Lw G z0 B0 H0 Bs (c0 + c) cb Inv (i + 1), ct := Lw G z0 B0 H0 Bs (c0 + c) cb Inv (i + 1), bk := D.nx } σ' H')
    (hd : ∀ m, An m → ∀ Γ' z' B' H' σ', Inv m Γ' B' H' → Nx G (c0 + c + m * cb) z0 B0 H0 z' B' H' → Slo B' σ' Γ' → D.nx σ' H') : tFor wi g t D σ H := by
  refine h z B σ H en n.at_ (by have := n.hi; omega) _ fun J m z1 B1 H1 am n1 src => ?_
  refine ⟨fun i k σ H => k + i = m ∧ Lw G z0 B0 H0 B1 (c0 + c) cb Inv i σ H, ⟨m, by omega, Γ, z1, B1, h0 z1 B1 H1 n1 (en.up n1.up), Ex.refl _, (n.trans s0 n1).le (by omega), en.up n1.up⟩, ?_⟩
  rintro i k σ2 H2 ⟨e, Γ2, z2, B2, i2, x2, n2, en2⟩
  rcases Nat.lt_or_ge i m with lt | ge
  · refine .inr ⟨src.go i lt H2 (x2.trans n2.at_.ex), Lw G z0 B0 H0 B1 (c0 + c) cb Inv (i + 1), fun σ' H' p => ⟨k - 1, by omega, by omega, p⟩, fun x H3 y => ?_⟩
    obtain ⟨e3, fin⟩ := src.yld i lt x H2 H3 (x2.trans n2.at_.ex) y
    refine fin σ2 Γ2 B2 en2 x2 n2.at_.ex _ fun σ' en3 _ => ?_
    exact hs m am B1 i Γ2 z2 B2 H3 σ' lt (up _ _ _ _ _ i2 e3) x2 ((n2.trans s0 (Nx.more n2.at_ e3)).le (by omega)) en3
  · cases (show i = m by omega)
    exact .inl ⟨src.stop H2 (x2.trans n2.at_.ex), hd m am Γ2 z2 B2 H2 σ2 i2 n2 en2⟩
theorem q_forS {wi : TI} {js : List Nat} {cb : Nat} {An : Nat → Prop} {F : Nat → Ctx → Ctx} (s0 : At G z0 B0 H0) (n : Nx G c0 z0 B0 H0 z B H) (en : Slo B σ Γ) (h : TyI G c wi g Γ js An F) (hz : z0 + (c0 + c) ≤ 2 ^ 50)
    (Inv : Nat → Ctx → Hp → Hp → Prop)
    (h0 : ∀ z' B' H', Nx G c z B H z' B' H' → Slo B' σ Γ → Inv 0 Γ B' H')
    (up : ∀ i Γ B H H', Inv i Γ B H → Ex H H' → Inv i Γ B H')
    (hs : ∀ m, An m → ∀ Bs i Γ' z' B' H' σ', i < m → Inv i Γ' B' H' → Ex Bs B' → Nx G (c0 + c + i * cb) z0 B0 H0 z' B' H' → Slo B' σ' (F i Γ') →
      t { D with nx := Lw G z0 B0 H0 Bs (c0 + c) cb Inv (i + 1), ct := Lw G z0 B0 H0 Bs (c0 + c) cb Inv (i + 1), bk := tz D } σ' H')
    (hd : ∀ m, An m → ∀ Γ' z' B' H' σ', Inv m Γ' B' H' → Nx G (c0 + c + m * cb) z0 B0 H0 z' B' H' → Slo B' σ' Γ' → tz D σ' H') : tSeq (tFor wi g t) tz D σ H :=
  q_for (D := { D with nx := tz D }) s0 n en h hz Inv h0 up hs hd
/-- a while, by a word that falls -/
theorem q_while {cb : Nat} (s0 : At G z0 B0 H0) (n : Nx G c0 z0 B0 H0 z B H) (en : Slo B σ Γ) (Inv : Nat → Nat → Ctx → Hp → Hp → Prop) (m0 : Nat) (h0 : Inv 0 m0 Γ B H)
    (hs : ∀ i m Γ' z' B' H' σ', Inv i m Γ' B' H' → Nx G (c0 + i * cb) z0 B0 H0 z' B' H' → Slo B' σ' Γ' →
      ∃ b, (∀ Q : Bool → Hp → Prop, (∀ z2 B2 H2, Nx G cb z' B' H' z2 B2 H2 → Slo B2 σ' Γ' → Q b H2) → tt σ' H' Q) ∧
      (b = true → ∀ z2 B2 H2, Nx G cb z' B' H' z2 B2 H2 → Slo B2 σ' Γ' → ∃ N : L2.St → Hp → Prop, (∀ σ3 H3, N σ3 H3 → ∃ m' Γ3 z3 B3, m' < m ∧ Inv (i + 1) m' Γ3 B3 H3 ∧ Nx G (c0 + (i + 1) * cb) z0 B0 H0 z3 B3 H3 ∧ Slo B3 σ3 Γ3) ∧ t { D with nx := N, ct := N, bk := D.nx } σ' H2) ∧
      (b = false → ∀ z2 B2 H2, Nx G cb z' B' H' z2 B2 H2 → Nx G (c0 + (i + 1) * cb) z0 B0 H0 z2 B2 H2 → Slo B2 σ' Γ' → D.nx σ' H2)) : tWhile tt t D σ H := by
  refine ⟨fun m σ H => ∃ i Γ z B, Inv i m Γ B H ∧ Nx G (c0 + i * cb) z0 B0 H0 z B H ∧ Slo B σ Γ, ⟨m0, 0, Γ, z, B, h0, n.le (by omega), en⟩, ?_⟩
  rintro m σ2 H2 ⟨i, Γ2, z2, B2, i2, n2, en2⟩
  obtain ⟨b, hb, k1, k2⟩ := hs i m Γ2 z2 B2 H2 σ2 i2 n2 en2
  refine hb _ fun z3 B3 H3 n3 en3 => ?_
  cases b with
  | true =>
    obtain ⟨N, hN, run⟩ := k1 rfl z3 B3 H3 n3 en3
    refine ⟨N, fun σ' H' p => ?_, run⟩
    obtain ⟨m', Γ4, z4, B4, lt, i4, n4, en4⟩ := hN σ' H' p
    exact ⟨m', lt, i + 1, Γ4, z4, B4, i4, n4, en4⟩
  | false => exact k2 rfl z3 B3 H3 n3 ((n2.trans s0 n3).le (by rw [Nat.add_mul]; omega)) en3

/-! ### comprehensions -/
/-- the turns' words: which were kept, with what -/
inductive Sel {α : Type} (T : Nat → Bool → Prop) (A : Nat → α → Prop) : Nat → List α → Prop
  | nil : Sel T A 0 []
  | no {i : Nat} {ys : List α} : Sel T A i ys → T i false → Sel T A (i + 1) ys
  | yes {i : Nat} {ys : List α} {y : α} : Sel T A i ys → T i true → A i y → Sel T A (i + 1) (ys ++ [y])
theorem Sel.len {T : Nat → Bool → Prop} {A : Nat → α → Prop} : ∀ {i : Nat} {ys : List α}, Sel T A i ys → ys.length ≤ i
  | _, _, .nil => Nat.le_refl _
  | _, _, .no h _ => Nat.le_succ_of_le (Sel.len h)
  | _, _, .yes h _ _ => by rw [List.length_append]; exact Nat.succ_le_succ (Sel.len h)
theorem ty_lc {wi : TI} {js vs : List Nat} {M ct cb : Nat} {An : Nat → Prop} {F : Nat → Ctx → Ctx} {T : Nat → Bool → Prop} {A : Nat → α → Prop} (h : TyI G c wi g Γ js An F) (hM : ∀ m, An m → m ≤ M) (hm : M ≤ 40000) (hj : ∀ j ∈ js, j ∈ vs)
    (ht : ∀ m, An m → ∀ i, i < m → TyT G ct tt (F i (wipeC Γ vs)) (T i)) (he : ∀ m, An m → ∀ i, i < m → T i true → Ty G cb te (F i (wipeC Γ vs)) (A i)) :
    Ty G (c + M * (ct + cb)) (tLc wi g tt te vs) Γ (fun ys => ∃ m, An m ∧ Sel T A m ys) := fun z B σ H en s hz Q q => by
  refine h z B σ H en s (by omega) _ fun J m z1 B1 H1 am n1 src => fun D hD => ?_
  have mM := hM m am
  have hz : z + ((c + m * (ct + cb) : Nat) : Int) ≤ 2 ^ 50 := by
    have : m * (ct + cb) ≤ M * (ct + cb) := Nat.mul_le_mul_right _ mM
    generalize m * (ct + cb) = w1 at this ⊢
    generalize M * (ct + cb) = w2 at this hz
    omega
  replace q : ∀ (x : List α) (v : V) (z' : Int) (B' H' : Hp), Sel T A m x → Nx G (c + m * (ct + cb)) z B H z' B' H' → Py.is x v B' → Q v H' := fun x v z' B' H' sx nx => q x v z' B' H' ⟨m, am, sx⟩ (nx.le (Nat.add_le_add_left (Nat.mul_le_mul_right _ mM) _))
  -- the word: the base without the new list
  refine ⟨fun i k H' => k + i = m ∧ ∃ ys us z' B', Sel T A i ys ∧ Each B' ys us ∧ H' D = some (.lst us) ∧ B' D = none ∧ Ex B1 B' ∧ Nx G (c + i * (ct + cb)) z B H z' B' H', ⟨m, by omega, [], [], z1, B1, .nil, .nil, upd_same, ?_, Ex.refl _, ?_⟩, ?_⟩
  · cases e : B1 D with
    | none => rfl
    | some o => rw [n1.at_.ex _ _ e] at hD; cases hD
  · exact (n1.trans s (Nx.more n1.at_ (Ex.new hD))).le (by omega)
  rintro i k H2 ⟨e, ys, us, z2, B2, sel, ea, hD2, nD, x2, n2⟩
  have nDH : H D = none := n1.gone s hD
  have gD : G ≠ some D := fun hg => by
    obtain ⟨_, _, _, q1, _⟩ := s.gen D hg
    rw [q1] at nDH
    cases nDH
  rcases Nat.lt_or_ge i m with lt | ge
  · have succ : (i + 1) * (ct + cb) = i * (ct + cb) + (ct + cb) := by rw [Nat.add_mul, Nat.one_mul]
    have bound : z + ((c + i * (ct + cb) + (ct + cb) : Nat) : Int) ≤ 2 ^ 50 := by
      have h1 : (i + 1) * (ct + cb) ≤ m * (ct + cb) := Nat.mul_le_mul_right _ lt
      have h2 : (i + 1) * (ct + cb) = i * (ct + cb) + (ct + cb) := by rw [Nat.add_mul, Nat.one_mul]
      rw [h2] at h1
      generalize i * (ct + cb) = w1 at h1 ⊢
      generalize m * (ct + cb) = w2 at h1 hz
      omega
    have dropNx : ∀ {z' : Int} {B' H' : Hp} {c' : Nat} (o : HO), B' D = none → Nx G c' z B H z' B' H' → Nx G c' z B H z' B' (upd H' D o) := fun {z' B' H' c'} o nB nx => by
      refine ⟨⟨fun a u ha => ?_, fun g' hg => ?_⟩, nx.up, nx.new, nx.lo, nx.hi, fun a u hg ha => ?_⟩
      · rw [upd_ne (ne_of_none ha nB)]
        exact nx.at_.ex a u ha
      · obtain ⟨q1, x, y, q2, q3⟩ := nx.at_.gen g' hg
        exact ⟨q1, x, y, by rw [upd_ne (fun z => gD (by rw [hg, z]))]; exact q2, q3⟩
      · rw [upd_ne (ne_of_none ha nDH)]
        exact nx.keep a u hg ha
    generalize hw' : i * (ct + cb) = w at n2 bound succ
    refine .inr ⟨src.go i lt H2 (x2.trans n2.at_.ex), fun H' => ∃ ys us z' B', Sel T A (i + 1) ys ∧ Each B' ys us ∧ H' D = some (.lst us) ∧ B' D = none ∧ Ex B1 B' ∧ Nx G (c + (i + 1) * (ct + cb)) z B H z' B' H', fun H' p => ⟨k - 1, by omega, by omega, p⟩, fun x H3 y => ?_⟩
    obtain ⟨e3, fin⟩ := src.yld i lt x H2 H3 (x2.trans n2.at_.ex) y
    have enB : Slo B2 (L2.wipe σ vs) (wipeC Γ vs) := (en.up n2.up).wipe vs
    refine fin (L2.wipe σ vs) (wipeC Γ vs) B2 enB x2 n2.at_.ex _ fun σ' en3 hw => ⟨?_, ?_⟩
    · have : ∀ (us : List Nat) (τ : L2.St), L2.wipe (L2.wipe τ us) us = L2.wipe τ us := by
        intro us
        induction us with
        | nil => intro τ; rfl
        | cons u us ih =>
          intro τ
          show (L2.wipe ((L2.wipe τ us).set u none) us).set u none = (L2.wipe τ us).set u none
          by_cases hu : u ∈ us
          · rw [wipe_set _ u _ us hu, ih]
          · have com : ∀ (ws : List Nat) (τ : L2.St), (L2.wipe (τ.set u none) ws).set u none = (L2.wipe τ ws).set u none := by
              intro ws
              induction ws with
              | nil => intro τ; show (τ.set u none).set u none = _; rw [List.set_set]; rfl
              | cons w ws ih2 =>
                intro τ
                show ((L2.wipe (τ.set u none) ws).set w none).set u none = ((L2.wipe τ ws).set w none).set u none
                by_cases k : w = u
                · subst k
                  rw [List.set_set, List.set_set]
                  exact ih2 τ
                · rw [List.set_comm _ _ k, List.set_comm _ _ k, ih2]
            rw [com us, ih]
      rw [hw vs hj, this]
    have n3 : Nx G (c + w) z B H z2 B2 H3 := (n2.trans s (Nx.more n2.at_ e3)).le (by omega)
    have keepD : ∀ {c' : Nat} {za zb : Int} {Ba Bb Ha Hb : Hp} {vs : List V}, Nx G c' za Ba Ha zb Bb Hb → Ha D = some (.lst vs) → Ba D = none → Hb D = some (.lst vs) ∧ Bb D = none := fun {c' za zb Ba Bb Ha Hb vs} nx hd hb => by
      refine ⟨nx.keep D _ gD hd, ?_⟩
      cases e : Bb D with
      | none => rfl
      | some o =>
        rcases nx.new D o e with h | h
        · rw [hb] at h; cases h
        · rw [hd] at h; cases h
    refine ht m am i lt z2 B2 σ' H3 en3 n3.at_ (by have := n3.hi; omega) _ fun b z4 B4 H4 tb n4 => ?_
    obtain ⟨hD4, nD4⟩ := keepD n4 (e3 D _ hD2) nD
    cases b with
    | false =>
      show ∃ ys us z' B', _
      refine ⟨ys, us, z4, B4, .no sel tb, ea.ex n4.up, hD4, nD4, x2.trans n4.up, (n3.trans s n4).le (by rw [succ]; omega)⟩
    | true =>
      show te σ' H4 fun y H5 => _
      refine he m am i lt tb z4 B4 σ' H4 (en3.up n4.up) n4.at_ (by have := n3.hi; have := n4.hi; omega) _ fun y v z5 B5 H5 ay n5 hv => ?_
      obtain ⟨hD5, nD5⟩ := keepD n5 hD4 nD4
      refine ⟨us, hD5, sz_lt (by rw [ea.len]; have := sel.len; omega), ys ++ [y], us ++ [v], z5, B5, .yes sel tb ay, ((ea.ex n4.up).ex n5.up).snoc hv, upd_same, nD5, (x2.trans n4.up).trans n5.up, dropNx _ nD5 (((n3.trans s n4).trans s n5).le (by rw [succ]; omega))⟩
  · cases (show i = m by omega)
    refine .inl ⟨src.stop H2 (x2.trans n2.at_.ex), ?_⟩
    refine q ys (.ref D) z2 (upd B2 D (.lst us)) H2 sel ⟨⟨fun a u ha => ?_, fun g' hg => ?_⟩, n2.up.trans (Ex.new nD), fun a u ha => ?_, n2.lo, n2.hi, n2.keep⟩ ⟨D, us, rfl, upd_same, ea.ex (Ex.new nD)⟩
    · by_cases e : a = D
      · subst e
        rw [upd_same] at ha
        rw [hD2, ha]
      · rw [upd_ne e] at ha
        exact n2.at_.ex a u ha
    · obtain ⟨q1, q2⟩ := n2.at_.gen g' hg
      exact ⟨by rw [upd_ne (fun z => gD (by rw [hg, z]))]; exact q1, q2⟩
    · by_cases e : a = D
      · subst e
        exact .inr nDH
      · rw [upd_ne e] at ha
        exact n2.new a u ha
/-- all is told -/
theorem sel_det {T : Nat → Bool → Prop} {A : Nat → α → Prop} (p : Nat → Bool) (f : Nat → α) (hT : ∀ i b, T i b → b = p i) (hA : ∀ i y, A i y → y = f i) :
    ∀ {m : Nat} {ys : List α}, Sel T A m ys → ys = ((List.range m).filter p).map f
  | _, _, .nil => rfl
  | _, _, .no (i := i) h t => by
    have ih := sel_det p f hT hA h
    have e := hT i false t
    rw [List.range_succ, List.filter_append, List.map_append, ← ih, List.filter_cons, if_neg (by rw [← e]; decide)]
    show _ = _ ++ []
    rw [List.append_nil]
  | _, _, .yes (i := i) h t a => by
    have ih := sel_det p f hT hA h
    have e := hT i true t
    rw [List.range_succ, List.filter_append, List.map_append, ← ih, List.filter_cons, if_pos e.symm, hA i _ a] <;> rfl
end
end AP

set_option maxHeartbeats 4000000
/-! A def's promise by its body; calls of such defs; values of any kind. -/
namespace AP
open PySem PySem.Spec PyProof.Rows L2 Evl
section
variable {P : Program} {w : World} {K : PySem.W.Frag} {mg : Str → Option Value} {base : Heap} {ι β : Type} [Py β]
/-- the rest of a def's body: what it has to come to -/
abbrev Back (C : Con ι β) (i : ι) (G : Option Addr) (z0 : Int) (B0 H0 : Hp) (Q : VK) : Prop :=
  ∀ y w z' B' H', C.post i y → Nx G (C.c i) z0 B0 H0 z' B' H' → Py.is y w B' → Q w H'
theorem con_go {x qual : Str} {st : Stmt} {f : Addr} {fd : FuncData} {N ps : List Str} {k : Nat}
    (F : Df K x qual st [] f fd) (S : FnScope N ps (defScope st)) (C : Con ι β) (hl : ∀ i, (C.args i).length = ps.length)
    (body : ∀ (cdv : Value) (A : Around) (outer : List PySem.Env) (s : Shared) (H : Hp) (E : XK) (i : ι) (G : Option Addr) (z0 : Int) (B0 : Hp),
      Room k (A.deeper (envOfC qual (defScope st) s.heap.objs.size f cdv)) → C.pre i G → At G z0 B0 H → z0 + C.c i ≤ 2 ^ 50 →
        ∃ t, PSs (cxOf CX0 P w K mg base N qual (defScope st) f cdv A outer s H E).nox (defBody st) t ∧
          ∀ (σ : L2.St) (Q : VK), Slo B0 σ (ctx0 N.length (C.args i)) → Back C i G z0 B0 H Q → t { nx := fun _ H' => Q .non H', rt := Q } σ H) :
    FnOk P w K mg base CX0 (k + 1) f fd ps C.sp := by
  refine F.go S (fun vs H Q E h => ?_) (fun cdv A outer s H vs Q E hr h => ?_)
  · obtain ⟨i, _, _, _, al, _⟩ := h
    rw [al.len]
    exact hl i
  · obtain ⟨i, G, z0, B0, al, hp, at0, hz, q⟩ := h
    obtain ⟨t, ht, run⟩ := body cdv A outer s H E i G z0 B0 hr hp at0 hz
    exact ⟨t, ht, run _ Q (Slo.start al) q⟩
theorem con_goG {x qual : Str} {st : Stmt} {f : Addr} {fd : FuncData} {N ps : List Str} {k : Nat}
    (F : Df K x qual st [] f fd) (S : FnScope N ps (defScope st)) (C : Con ι β) (hl : ∀ i, (C.args i).length = ps.length)
    (body : ∀ (cdv : Value) (A : Around) (outer : List PySem.Env) (s : Shared) (H : Hp) (E : XK) (i : ι) (G : Option Addr) (z0 : Int) (B0 : Hp),
      (A.deeper (envOfC qual (defScope st) s.heap.objs.size f cdv)).guards = some [] →
      Room k (A.deeper (envOfC qual (defScope st) s.heap.objs.size f cdv)) → C.pre i G → At G z0 B0 H → z0 + C.c i ≤ 2 ^ 50 →
        ∃ t, PSs (cxOf CX0 P w K mg base N qual (defScope st) f cdv A outer s H E).nox (defBody st) t ∧
          ∀ (σ : L2.St) (Q : VK), Slo B0 σ (ctx0 N.length (C.args i)) → Back C i G z0 B0 H Q → t { nx := fun _ H' => Q .non H', rt := Q } σ H) :
    FnG P w K mg base CX0 (k + 1) f fd ps C.sp := by
  refine F.goG S (fun vs H Q E h => ?_) (fun cdv A outer s H vs Q E ng hr h => ?_)
  · obtain ⟨i, _, _, _, al, _⟩ := h
    rw [al.len]
    exact hl i
  · obtain ⟨i, G, z0, B0, al, hp, at0, hz, q⟩ := h
    obtain ⟨t, ht, run⟩ := body cdv A outer s H E i G z0 B0 ng hr hp at0 hz
    exact ⟨t, ht, run _ Q (Slo.start al) q⟩
/-- a def of the text that keeps its promise: all that a caller needs -/
structure Fo (P : Program) (w : World) (K : PySem.W.Frag) (mg : Str → Option Value) (base : Heap) (x : Str) (k : Nat) (ps : List Str) (sp : Sp) : Prop where
  ex : ∃ (f : Addr) (fd : FuncData), mg x = some (.ref f) ∧ PySem.W.keepIn K (.ref f) = true ∧ Binds K fd ps [] ∧
    (∀ (s : Shared) (ws : List Value), K.In s.heap → ws.length = ps.length → BindsTo s fd ⟨[], ps.reverse.zip ws⟩ (ps.zip ws.reverse)) ∧ FnOk P w K mg base CX0 k f fd ps sp
theorem Fo.mk' {x qual : Str} {st : Stmt} {f : Addr} {fd : FuncData} {ps : List Str} {k : Nat} {sp : Sp} (F : Df K x qual st [] f fd) (m : mg x = some (.ref f)) (G : FnOk P w K mg base CX0 k f fd ps sp)
    (b : ∀ (kV doc pm : Value) (an : Option Addr) (cdv ct : Value) (us : List Value), us.length = ps.length → bindArgs (PySem.W.fnOf x qual (defArgs st) (defBody st) (defScope st) .none kV doc pm an cdv ct) ⟨us, []⟩ = pure (ps.zip us))
    (bk : ∀ (kV doc pm : Value) (an : Option Addr) (cdv ct : Value) (us : List Value), us.length = ps.length → bindArgs (PySem.W.fnOf x qual (defArgs st) (defBody st) (defScope st) .none kV doc pm an cdv ct) ⟨[], ps.reverse.zip us⟩ = pure (ps.zip us.reverse)) :
    Fo P w K mg base x k ps sp := by
  refine ⟨f, fd, m, F.kp, FunD.bindsN F b, fun s ws _ hl => ?_, G⟩
  obtain ⟨oc, od, dV, kV, doc, pm, an, cdv, ct, osl, rfl, lk, hcd, hD, hK⟩ := F.ex
  rcases hD with ⟨_, rfl⟩ | ⟨e, _⟩
  · exact .of_eq (bk kV doc pm an cdv ct ws hl)
  · exact absurd rfl e
theorem Fo.mono {x : Str} {j k : Nat} {ps : List Str} {sp : Sp} (F : Fo P w K mg base x j ps sp) (h : j ≤ k) : Fo P w K mg base x k ps sp := by
  obtain ⟨f, fd, a, b, c, d, e⟩ := F.ex
  exact ⟨f, fd, a, b, c, d, e.mono h⟩
end
section
variable {X : Cx} {k : Nat} {ps : List Str} {sp : Sp} {x : Str} {p pos : Pos} {e : Expr} {es : List Expr} {t : TA}
theorem pe_fo (F : Fo X.prog X.w X.K X.mg X.base x k ps sp) (hr : Room k X.A) (hg : Gl X x) (ha : PA X (e :: es) t) (hdb : (x == ("__debug__" : Str)) = false := by decide)
    (he : starEach (e :: es) X.env = (false, eval e X.env) :: starEach es X.env := by rfl)
    (hpl : (backTo pos (starEach es X.env)).any (·.1) = false := by rfl) :
    PE X (.Call (.Name x p) (e :: es) [] pos) (tCall sp [] (fun _ _ _ => False) t) := by
  obtain ⟨f, fd, m, kp, b, _, G⟩ := F.ex
  exact pe_call G hr hg m kp b .nil pass0 ha hdb he hpl
/-- all arguments by their names, the last one first -/
theorem pe_fok {kws : List Keyword} {tk : TA} (F : Fo X.prog X.w X.K X.mg X.base x k ps sp) (hr : Room k X.A) (hg : Gl X x) (hkw : PK X kws tk) (hdb : (x == ("__debug__" : Str)) = false := by decide)
    (hall : (backToKw pos (keywordEach kws X.env)).all (·.1.isSome) = true := by rfl) (hks : (backToKw pos (keywordEach kws X.env)).filterMap (·.1) = ps.reverse := by rfl)
    (hpl : ((backTo pos (starEach [] X.env)).any (·.1) || (backToKw pos (keywordEach kws X.env)).any (·.1.isNone)) = false := by rfl) :
    PE X (.Call (.Name x p) [] kws pos) (tCallK sp (fun _ ks => ks.reverse) (fun _ _ _ => False) tNil tk) := by
  obtain ⟨f, fd, m, kp, _, kb, G⟩ := F.ex
  refine ⟨fun pins s σ H Q I h => wpAny_Call_Name_kw (ld_glob I hg m ?_ hdb)⟩
  refine PySem.W.callWith_KW0 (h₀ := X.base) I.ok.mod.kin kp hall (thn (hkw.run pos pins s σ H _ I h) fun ws s2 hs => ?_) hpl
  obtain ⟨zs, H2, I2, rz, q⟩ := hs
  refine ⟨I2.kIn, ?_⟩
  rw [hks]
  have rr : Vals zs.reverse ws.reverse := by
    have : ∀ {zs : List V} {ws : List Value}, Vals zs ws → Vals zs.reverse ws.reverse := by
      intro zs ws h
      induction h with
      | nil => exact .nil
      | cons r _ ih =>
        rw [List.reverse_cons, List.reverse_cons]
        exact ih.append (.cons r .nil)
    exact this rz
  have hl : ws.length = ps.length := by
    have h1 := G.len _ _ _ _ q
    have h2 := rz.length
    rw [List.length_reverse] at h1
    omega
  refine wpAny_call (codeAny_mono (G.run X.A X.stack s2 H2 ⟨[], ps.reverse.zip ws⟩ ws.reverse zs.reverse Q _ hr I2.env0 (kb s2 ws I2.kIn hl) rr q) fun r s' hq => ?_)
  cases r with
  | error e => exact hq.elim
  | ok fl =>
    cases fl with
    | ret u => exact I2.after hq
    | next => exact hq.elim
    | brk => exact hq.elim
    | cont => exact hq.elim
end
section
variable {K : PySem.W.Frag} {G : Option Addr} {c c1 c2 c3 : Nat} {te ta tb tx : TE} {tt : TT} {Γ : Ctx} {ι α β : Type} [Py α] [Py β] {A : α → Prop} {tr : TA} {B B' H : Hp} {v w : V}
/-- keywords in turn, told from behind -/
theorem Alls.rev : ∀ {Ps : List VP} {vs : List V}, Alls B Ps vs → Alls B Ps.reverse vs.reverse
  | _, _, .nil => .nil
  | _, _, .cons st h r => by
    rw [List.reverse_cons, List.reverse_cons]
    exact (Alls.rev r).app (.cons st h .nil)
theorem ty_callR {C : Con ι β} {E : XK} {tk : TA} (i : ι) (hk : TyA G c tk Γ (C.args i).reverse) (p : C.pre i G) : Ty G (0 + c + C.c i) (tCallK C.sp (fun _ ks => ks.reverse) E tNil tk) Γ (C.post i) :=
  ty_callK i ta_nil hk p fun vs ks B _ al => by
    have := al.rev
    rw [List.reverse_reverse] at this
    exact this
/-! ### comprehensions, all told -/
theorem ty_lcL {xs : List α} {p : α → Bool} {f : α → β} {tl : TE} {j : Nat} {vs : List Nat} (h : Ty G c tl Γ (· = xs)) (hm : xs.length ≤ 40000) (hj : j ∈ vs)
    (ht : ∀ x, x ∈ xs → TyT G 0 tt ((wipeC Γ vs).set j (some (Py.is x))) (· = p x)) (he : ∀ x, x ∈ xs → p x = true → Ty G 0 te ((wipeC Γ vs).set j (some (Py.is x))) (· = f x)) :
    Ty G c (tLc (iList K tl) (gName j) tt te vs) Γ (· = (xs.filter p).map f) := by
  refine Ty.le (c1 := c + xs.length * (0 + 0)) ?_ (by simp)
  refine (ty_lc (T := fun i b => ∃ x, xs[i]? = some x ∧ b = p x) (A := fun i y => ∃ x, xs[i]? = some x ∧ y = f x) (M := xs.length) (ti_list h) (fun m e => Nat.le_of_eq e) hm (by simpa using hj) (fun m em i hi => ?_) fun m em i hi hp => ?_).imp fun ys ⟨m, em, sel⟩ => ?_
  · subst em
    have e := List.getElem?_eq_getElem hi
    rw [itm_eq e]
    exact (ht _ (List.getElem_mem hi)).imp fun b q => ⟨_, e, q⟩
  · subst em
    have e := List.getElem?_eq_getElem hi
    rw [itm_eq e]
    obtain ⟨x, e2, q⟩ := hp
    rw [e] at e2
    cases e2
    exact (he _ (List.getElem_mem hi) q.symm).imp fun b q => ⟨_, e, q⟩
  · subst em
    have key : ∀ (m : Nat) (ys : List β), Sel (fun i b => ∃ x, xs[i]? = some x ∧ b = p x) (fun i y => ∃ x, xs[i]? = some x ∧ y = f x) m ys → ys = ((xs.take m).filter p).map f := by
      intro m ys sel
      induction sel with
      | nil => rfl
      | no h t ih =>
        obtain ⟨x, e, q⟩ := t
        rw [List.take_add_one, e, List.filter_append, List.map_append, ← ih]
        show _ = _ ++ List.map f (List.filter p [x])
        rw [List.filter_cons, if_neg (by rw [← q]; decide)]
        show _ = _ ++ []
        rw [List.append_nil]
      | yes h t a ih =>
        obtain ⟨x, e, q⟩ := t
        obtain ⟨x', e', q'⟩ := a
        rw [e] at e'
        cases e'
        rw [List.take_add_one, e, List.filter_append, List.map_append, ← ih]
        show _ = _ ++ List.map f (List.filter p [x])
        rw [List.filter_cons, if_pos q.symm, q'] <;> rfl
    have := key _ _ sel
    rw [List.take_length] at this
    exact this
theorem ty_lcM {xs : List α} {f : α → β} {tl : TE} {j : Nat} {vs : List Nat} (h : Ty G c tl Γ (· = xs)) (hm : xs.length ≤ 40000) (hj : j ∈ vs)
    (he : ∀ x, x ∈ xs → Ty G 0 te ((wipeC Γ vs).set j (some (Py.is x))) (· = f x)) :
    Ty G c (tLc (iList K tl) (gName j) tYes te vs) Γ (· = xs.map f) :=
  (ty_lcL (p := fun _ => true) h hm hj (fun x _ => tt_yes) fun x hx _ => he x hx).to (by rw [List.filter_eq_self.mpr fun _ _ => rfl])
theorem ty_lcR2 {lo n : Int} {p : Int → Bool} {f : Int → β} {j : Nat} {vs : List Nat} (h : TyA G c tr Γ [Py.is lo, Py.is n]) (h1 : -(2 ^ 62) ≤ lo ∧ lo < 2 ^ 62) (hn : -(2 ^ 62) ≤ n ∧ n < 2 ^ 62) (hm : (n - lo).toNat ≤ 40000) (hj : j ∈ vs)
    (ht : ∀ x, lo ≤ x → x < n → TyT G 0 tt ((wipeC Γ vs).set j (some (Py.is x))) (· = p x)) (he : ∀ x, lo ≤ x → x < n → p x = true → Ty G 0 te ((wipeC Γ vs).set j (some (Py.is x))) (· = f x)) :
    Ty G c (tLc (iRng2 tr) (gName j) tt te vs) Γ (· = (((List.range (n - lo).toNat).map fun i : Nat => lo + (i : Int)).filter p).map f) := by
  refine Ty.le (c1 := c + (n - lo).toNat * (0 + 0)) ?_ (by simp)
  refine (ty_lc (T := fun i b => b = p (lo + (i : Int))) (A := fun i y => y = f (lo + (i : Int))) (M := (n - lo).toNat) (ti_rng2 h h1 hn) (fun m e => Nat.le_of_eq e) hm (by simpa using hj) (fun m em i hi => ht _ (by omega) (by omega)) fun m em i hi hp => he _ (by omega) (by omega) hp.symm).imp fun ys ⟨m, em, sel⟩ => ?_
  subst em
  rw [sel_det (fun i => p (lo + (i : Int))) (fun i => f (lo + (i : Int))) (fun _ _ q => q) (fun _ _ q => q) sel, List.filter_map, List.map_map]
  rfl
theorem ty_lcR1 {n : Int} {p : Int → Bool} {f : Int → β} {j : Nat} {vs : List Nat} (h : TyA G c tr Γ [Py.is n]) (hn : -(2 ^ 62) ≤ n ∧ n < 2 ^ 62) (hm : n.toNat ≤ 40000) (hj : j ∈ vs)
    (ht : ∀ x, 0 ≤ x → x < n → TyT G 0 tt ((wipeC Γ vs).set j (some (Py.is x))) (· = p x)) (he : ∀ x, 0 ≤ x → x < n → p x = true → Ty G 0 te ((wipeC Γ vs).set j (some (Py.is x))) (· = f x)) :
    Ty G c (tLc (iRng1 tr) (gName j) tt te vs) Γ (· = (((List.range n.toNat).map fun i : Nat => (i : Int)).filter p).map f) := by
  refine Ty.le (c1 := c + n.toNat * (0 + 0)) ?_ (by simp)
  refine (ty_lc (T := fun i b => b = p (i : Int)) (A := fun i y => y = f (i : Int)) (M := n.toNat) (ti_rng1 h hn) (fun m e => Nat.le_of_eq e) hm (by simpa using hj) (fun m em i hi => ht _ (by omega) (by omega)) fun m em i hi hp => he _ (by omega) (by omega) hp.symm).imp fun ys ⟨m, em, sel⟩ => ?_
  subst em
  rw [sel_det (fun i => p (i : Int)) (fun i => f (i : Int)) (fun _ _ q => q) (fun _ _ q => q) sel, List.filter_map, List.map_map]
  rfl
end

/-! ### values of any kind -/
inductive Dat where
  | non
  | bl (b : Bool)
  | int (n : Int)
  | str (s : Str)
  | lst (ds : List Dat)
  | tup (ds : List Dat)
  | dic
mutual
inductive DatV (B : Hp) : Dat → V → Prop
  | non : DatV B .non .non
  | bl (b : Bool) : DatV B (.bl b) (.bl b)
  | int (n : Int) : DatV B (.int n) (.int n)
  | str (s : Str) : DatV B (.str s) (.str s)
  | lst {p : Addr} {vs : List V} {ds : List Dat} : B p = some (.lst vs) → DatVs B ds vs → DatV B (.lst ds) (.ref p)
  | tup {p : Addr} {vs : List V} {ds : List Dat} : B p = some (.tup vs) → DatVs B ds vs → DatV B (.tup ds) (.ref p)
  | dic {p : Addr} {kvs : List (Key × V)} : B p = some (.dK kvs) → DatV B .dic (.ref p)
inductive DatVs (B : Hp) : List Dat → List V → Prop
  | nil : DatVs B [] []
  | cons {d : Dat} {v : V} {ds : List Dat} {vs : List V} : DatV B d v → DatVs B ds vs → DatVs B (d :: ds) (v :: vs)
end
mutual
theorem DatV.ex {B B' : Hp} (e : Ex B B') : ∀ {d : Dat} {v : V}, DatV B d v → DatV B' d v
  | _, _, .non => .non
  | _, _, .bl b => .bl b
  | _, _, .int n => .int n
  | _, _, .str s => .str s
  | _, _, .lst h r => .lst (e _ _ h) (DatVs.ex e r)
  | _, _, .tup h r => .tup (e _ _ h) (DatVs.ex e r)
  | _, _, .dic h => .dic (e _ _ h)
theorem DatVs.ex {B B' : Hp} (e : Ex B B') : ∀ {d : List Dat} {v : List V}, DatVs B d v → DatVs B' d v
  | _, _, .nil => .nil
  | _, _, .cons h r => .cons (DatV.ex e h) (DatVs.ex e r)
end
instance : Py Dat := ⟨fun d v B => DatV B d v, fun _ _ _ _ e h => DatV.ex e h⟩
theorem DatVs.each {B : Hp} : ∀ {ds : List Dat} {vs : List V}, DatVs B ds vs → Each B ds vs
  | _, _, .nil => .nil
  | _, _, .cons h r => .cons h (DatVs.each r)
theorem Each.dats {B : Hp} : ∀ {ds : List Dat} {vs : List V}, Each B ds vs → DatVs B ds vs
  | _, _, .nil => .nil
  | _, _, .cons h r => .cons h (Each.dats r)
theorem dat_lst {ds : List Dat} {v : V} {B : Hp} (h : Py.is ds v B) : Py.is (Dat.lst ds) v B := by
  obtain ⟨p, vs, rfl, h1, h2⟩ := h
  exact .lst h1 h2.dats
theorem lst_dat {ds : List Dat} {v : V} {B : Hp} (h : Py.is (Dat.lst ds) v B) : Py.is ds v B := by
  cases (show DatV B (.lst ds) v from h) with
  | lst h1 h2 => exact ⟨_, _, rfl, h1, h2.each⟩
theorem dat_int {n : Int} {v : V} {B : Hp} (h : Py.is n v B) : Py.is (Dat.int n) v B := by
  cases (show v = .int n from h)
  exact .int n
theorem int_dat {n : Int} {v : V} {B : Hp} (h : Py.is (Dat.int n) v B) : Py.is n v B := by
  cases (show DatV B (.int n) v from h)
  rfl
theorem ints_dats {ns : List Int} {v : V} {B : Hp} (h : Py.is ns v B) : Py.is (ns.map Dat.int) v B := by
  obtain ⟨p, vs, rfl, h1, h2⟩ := h
  refine ⟨p, vs, rfl, h1, ?_⟩
  clear h1
  induction h2 with
  | nil => exact .nil
  | cons h _ ih => exact .cons (dat_int h) ih
theorem dats_ints {ns : List Int} {v : V} {B : Hp} (h : Py.is (ns.map Dat.int) v B) : Py.is ns v B := by
  obtain ⟨p, vs, rfl, h1, h2⟩ := h
  refine ⟨p, vs, rfl, h1, ?_⟩
  clear h1
  generalize hd : ns.map Dat.int = ds at h2
  induction h2 generalizing ns with
  | nil =>
    cases ns with
    | nil => exact .nil
    | cons _ _ => cases hd
  | cons h _ ih =>
    cases ns with
    | nil => cases hd
    | cons n r =>
      rw [List.map_cons] at hd
      injection hd with e1 e2
      subst e1
      exact .cons (int_dat h) (ih e2)
/-! ### isinstance -/
inductive Tn where
  | int | bool | list | tuple
def Tn.name : Tn → String
  | .int => "int" | .bool => "bool" | .list => "list" | .tuple => "tuple"
def Dat.isT : Dat → Tn → Bool
  | .bl _, .int => true
  | .bl _, .bool => true
  | .int _, .int => true
  | .lst _, .list => true
  | .tup _, .tuple => true
  | _, _ => false
theorem dat_kit {K : PySem.W.Frag} {B H : Hp} (e : Ex B H) {d : Dat} {v : V} (h : DatV B d v) (T : Tn) : ∃ t, TyX K H v t ∧ PySem.W.kitOne K t (.type T.name) = some (d.isT T) := by
  have k1 : ∀ T : Tn, kitB "NoneType" T.name = some (Dat.non.isT T) := fun T => by cases T <;> decide +kernel
  have k2 : ∀ T : Tn, kitB "bool" T.name = some ((Dat.bl true).isT T) := fun T => by cases T <;> decide +kernel
  have k3 : ∀ T : Tn, kitB "int" T.name = some ((Dat.int 0).isT T) := fun T => by cases T <;> decide +kernel
  have k4 : ∀ T : Tn, kitB "str" T.name = some ((Dat.str "").isT T) := fun T => by cases T <;> decide +kernel
  have k5 : ∀ T : Tn, kitB "list" T.name = some ((Dat.lst []).isT T) := fun T => by cases T <;> decide +kernel
  have k6 : ∀ T : Tn, kitB "tuple" T.name = some ((Dat.tup []).isT T) := fun T => by cases T <;> decide +kernel
  have k7 : ∀ T : Tn, kitB "dict" T.name = some (Dat.dic.isT T) := fun T => by cases T <;> decide +kernel
  cases h with
  | non => exact ⟨_, .base .non, kit_ty (k1 T)⟩
  | bl b => exact ⟨_, .base (.bl b), kit_ty (by have := k2 T; cases T <;> exact this)⟩
  | int n => exact ⟨_, .base (.int n), kit_ty (by have := k3 T; cases T <;> exact this)⟩
  | str s => exact ⟨_, .base (.str s), kit_ty (by have := k4 T; cases T <;> exact this)⟩
  | lst h _ => exact ⟨_, .base (.lst (e _ _ h)), kit_ty (by have := k5 T; cases T <;> exact this)⟩
  | tup h _ => exact ⟨_, .base (.tup (e _ _ h)), kit_ty (by have := k6 T; cases T <;> exact this)⟩
  | dic h => exact ⟨_, .base (.dK (e _ _ h)), kit_ty (k7 T)⟩
section
variable {K : PySem.W.Frag} {G : Option Addr} {c c1 c2 c3 : Nat} {te ta tb tx : TE} {Γ : Ctx} {α : Type} [Py α]
theorem ty_isi {d : Dat} (T : Tn) (h : Ty G c ta Γ (· = d)) : Ty G (c + (0 + 0)) (tCB (rIsi K) (tCons ta (tCons (tC (.ty T.name)) tNil))) Γ (· = d.isT T) := fun z B σ H en s hz Q q =>
  h z B σ H en s (by omega) _ fun x v z' B' H' ex n hv => by
    subst ex
    obtain ⟨t, h1, h2⟩ := dat_kit (K := K) n.at_.ex hv T
    exact ⟨v, _, t, _, _, rfl, .ty _, h1, h2, q _ _ z' B' H' rfl (n.le (by omega)) rfl⟩
end
end AP

set_option maxHeartbeats 4000000
/-! What the program's judging defs say, as functions of Lean; rules for values of any kind. -/
namespace AP
open PySem PySem.Spec PyProof.Rows L2 Evl
def Dat.whole : Dat → Bool
  | .int _ => true
  | _ => false
theorem Dat.whole_eq (d : Dat) : (d.isT .int && !d.isT .bool) = d.whole := by cases d <;> rfl
def Dat.toI : Dat → Int
  | .int n => n
  | _ => 0
theorem Dat.whole_int {d : Dat} (h : d.whole = true) : d = .int d.toI := by cases d <;> first | rfl | cases h
def Dat.within (lo hi : Int) : Dat → Bool
  | .int n => decide (lo ≤ n) && decide (n ≤ hi)
  | _ => false
theorem Dat.within_eq (lo hi : Int) (d : Dat) : d.within lo hi = (d.whole && (decide (lo ≤ d.toI) && decide (d.toI ≤ hi))) := by cases d <;> rfl
theorem Dat.within_whole {lo hi : Int} {d : Dat} (h : d.within lo hi = true) : d.whole = true := by cases d <;> first | rfl | cases h
theorem Dat.within_int {lo hi : Int} {d : Dat} (h : d.within lo hi = true) : lo ≤ d.toI ∧ d.toI ≤ hi := by
  rw [Dat.within_eq] at h
  simp only [Bool.and_eq_true, decide_eq_true_eq] at h
  exact h.2
def top (w : Int) : Int := 2 ^ w.toNat - 1
/-- a word of the width -/
def Dat.word (w : Int) (d : Dat) : Bool := d.within 0 (top w)
def Dat.small : Dat → Prop
  | .lst ds => ds.length ≤ 30000
  | _ => True
def wordsB (w : Int) : Dat → Bool
  | .lst ds => ds.all (Dat.word w)
  | _ => false
def climbs (ns : List Int) : Bool := (List.range (ns.length - 1)).all fun i => decide (ns.getD i 0 < ns.getD (i + 1) 0)
def placesB (w : Int) : Dat → Bool
  | .lst ds => ds.all (Dat.word w) && (decide (0 < ds.length) && climbs (ds.map Dat.toI))
  | _ => false
def wordsAtB (w : Int) (many : Nat) : Dat → Bool
  | .lst ds => ds.all (Dat.word w) && decide (ds.length = many)
  | _ => false
def knownOneB (w : Int) (ps : List Int) : Dat → Bool
  | .tup [a, b] => a.whole && (decide (a.toI ∈ ps) && b.word w)
  | _ => false
def Dat.fst : Dat → Dat
  | .tup (a :: _) => a
  | _ => .non
def knownB (w : Int) (ps : List Int) : Dat → Bool
  | .lst ds => ds.all (knownOneB w ps) && climbs (ds.map fun d => d.fst.toI)
  | _ => false
/-! contracts -/
def nop {ι : Type} : ι → Option Addr → Prop := fun _ _ => True
def cWhole : Con Dat Bool := ⟨fun d => [Py.is d], nop, fun _ => 0, fun d b => b = d.whole⟩
def cBetween : Con (Dat × Int × Int) Bool := ⟨fun i => [Py.is i.1, Py.is i.2.1, Py.is i.2.2], nop, fun _ => 0, fun i b => b = i.1.within i.2.1 i.2.2⟩
def cFitsWidth : Con Dat Bool := ⟨fun d => [Py.is d], nop, fun _ => 0, fun d b => b = d.within 1 64⟩
def wOk (w : Int) : Prop := 1 ≤ w ∧ w ≤ 64
def cFitsWord : Con (Int × Dat) Bool := ⟨fun i => [Py.is i.1, Py.is i.2], fun i _ => wOk i.1, fun _ => 0, fun i b => b = i.2.word i.1⟩
def cAreWords : Con (Int × Dat) Bool := ⟨fun i => [Py.is i.1, Py.is i.2], fun i _ => wOk i.1 ∧ i.2.small, fun _ => 0, fun i b => b = wordsB i.1 i.2⟩
def cClimbs : Con (List Int) Bool := ⟨fun i => [Py.is i], fun i _ => i.length ≤ 30000, fun _ => 0, fun i b => b = climbs i⟩
def cArePlaces : Con (Int × Dat) Bool := ⟨fun i => [Py.is i.1, Py.is i.2], fun i _ => wOk i.1 ∧ i.2.small, fun _ => 0, fun i b => b = placesB i.1 i.2⟩
def cWordsAt : Con (Int × List Int × Dat) Bool := ⟨fun i => [Py.is i.1, Py.is i.2.1, Py.is i.2.2], fun i _ => wOk i.1 ∧ i.2.2.small, fun _ => 0, fun i b => b = wordsAtB i.1 i.2.1.length i.2.2⟩
def cKnownOne : Con (Int × List Int × Dat) Bool := ⟨fun i => [Py.is i.1, Py.is i.2.1, Py.is i.2.2], fun i _ => wOk i.1, fun _ => 0, fun i b => b = knownOneB i.1 i.2.1 i.2.2⟩
def cKnown : Con (Int × List Int × Dat) Bool := ⟨fun i => [Py.is i.1, Py.is i.2.1, Py.is i.2.2], fun i _ => wOk i.1 ∧ i.2.2.small, fun _ => 0, fun i b => b = knownB i.1 i.2.1 i.2.2⟩
/-- good places -/
def Places (w : Int) (ps : List Int) : Prop := placesB w (.lst (ps.map Dat.int)) = true ∧ ps.length ≤ 30000
def cNeedWidth : Con Int Unit := ⟨fun w => [Py.is w], fun w _ => wOk w, fun _ => 0, fun _ _ => True⟩
def cNeedPlaces : Con (Int × List Int) Unit := ⟨fun i => [Py.is i.1, Py.is i.2], fun i _ => wOk i.1 ∧ Places i.1 i.2, fun _ => 0, fun _ _ => True⟩
def cIsWidth : Con Dat Bool := ⟨fun d => [Py.is d], nop, fun _ => 0, fun d b => b = d.within 1 64⟩
def cIsWord : Con (Int × Dat) Bool := cFitsWord
def cIsPlaces : Con (Int × Dat) Bool := cArePlaces
def cIsWords : Con (Int × List Int × Dat) Bool := ⟨fun i => [Py.is i.1, Py.is i.2.1, Py.is i.2.2], fun i _ => wOk i.1 ∧ Places i.1 i.2.1 ∧ i.2.2.small, fun _ => 0, fun i b => b = wordsAtB i.1 i.2.1.length i.2.2⟩
def cIsKnown : Con (Int × List Int × Dat) Bool := ⟨fun i => [Py.is i.1, Py.is i.2.1, Py.is i.2.2], fun i _ => wOk i.1 ∧ Places i.1 i.2.1 ∧ i.2.2.small, fun _ => 0, fun i b => b = knownB i.1 i.2.1 i.2.2⟩
/-! rules -/
section
variable {K : PySem.W.Frag} {G : Option Addr} {c c1 c2 c3 : Nat} {te ta tb tx : TE} {tt tu : TT} {Γ : Ctx} {α β : Type} [Py α] [Py β] {tr : TA} {B B' H : Hp} {v w : V} {i j : Int}
theorem Ty.datInt {n : Int} (h : Ty G c te Γ (· = n)) : Ty G c te Γ (· = Dat.int n) := h.cast fun _ _ => dat_int
theorem Ty.intDat {n : Int} (h : Ty G c te Γ (· = Dat.int n)) : Ty G c te Γ (· = n) := h.cast fun _ _ => int_dat
theorem Ty.datLst {ds : List Dat} (h : Ty G c te Γ (· = ds)) : Ty G c te Γ (· = Dat.lst ds) := h.cast fun _ _ => dat_lst
theorem Ty.lstDat {ds : List Dat} (h : Ty G c te Γ (· = Dat.lst ds)) : Ty G c te Γ (· = ds) := h.cast fun _ _ => lst_dat
theorem Ty.datInts {ns : List Int} (h : Ty G c te Γ (· = ns)) : Ty G c te Γ (· = ns.map Dat.int) := h.cast fun _ _ => ints_dats
theorem Ty.datBl {b : Bool} (h : Ty G c te Γ (· = b)) : Ty G c te Γ (· = Dat.bl b) := h.cast fun v B q => by
  cases (show v = .bl b from q)
  exact .bl b
theorem Ty.datStr {b : Str} (h : Ty G c te Γ (· = b)) : Ty G c te Γ (· = Dat.str b) := h.cast fun v B q => by
  cases (show v = .str b from q)
  exact .str b
theorem Ty.datNon (h : Ty G c te Γ (· = ())) : Ty G c te Γ (· = Dat.non) := h.cast fun v B q => by
  cases (show v = .non from q)
  exact .non
theorem Ty.intOf {d : Dat} (h : Ty G c te Γ (· = d)) (hw : d.whole = true) : Ty G c te Γ (· = d.toI) := h.cast fun v B q => by
  rw [Dat.whole_int hw] at q
  exact int_dat q
theorem all_ints : ∀ {ds : List Dat}, (∀ d, d ∈ ds → d.whole = true) → ds = (ds.map Dat.toI).map Dat.int
  | [], _ => rfl
  | d :: r, h => by
    rw [List.map_cons, List.map_cons, ← all_ints fun d hd => h d (List.mem_cons_of_mem _ hd), ← Dat.whole_int (h d List.mem_cons_self)]
theorem words_whole {w : Int} {ds : List Dat} (h : ds.all (Dat.word w) = true) : ∀ d, d ∈ ds → d.whole = true := fun d hd => Dat.within_whole (List.all_eq_true.mp h d hd)
theorem Ty.intsOf {ds : List Dat} (h : Ty G c te Γ (· = Dat.lst ds)) (hw : ∀ d, d ∈ ds → d.whole = true) : Ty G c te Γ (· = ds.map Dat.toI) := h.lstDat.cast fun v B q => by
  rw [all_ints hw] at q
  exact dats_ints q
theorem atI_in {ns : List Int} {i : Int} (h0 : 0 ≤ i) (h1 : i < ns.length) : atI ns i = some (ns.getD i.toNat 0) := by
  unfold atI ixN
  rw [if_pos h0, if_pos h1]
  show ns[i.toNat]? = _
  have lt : i.toNat < ns.length := by omega
  rw [List.getElem?_eq_getElem lt, List.getD_eq_getElem?_getD, List.getElem?_eq_getElem lt] <;> rfl
theorem climbs_eq (ns : List Int) : (((((List.range ((ns.length : Int) - 1).toNat).map fun i : Nat => 1 + (i : Int)).filter fun _ => true).map fun x : Int => decide (ns.getD (x - 1).toNat 0 < ns.getD x.toNat 0)).all id) = climbs ns := by
  rw [List.filter_eq_self.mpr fun _ _ => rfl, List.map_map, List.all_map]
  unfold climbs
  rw [show ((ns.length : Int) - 1).toNat = ns.length - 1 by omega]
  congr 1
  funext i
  show decide (ns.getD (1 + (i : Int) - 1).toNat 0 < ns.getD (1 + (i : Int)).toNat 0) = _
  rw [show (1 + (i : Int) - 1).toNat = i by omega, show (1 + (i : Int)).toNat = i + 1 by omega]
/-- a chain whose third part is asked only where it is known what it is -/
theorem ty_chainD {p p' : Int → Int → Bool} {k : Int} {tc : TE} (ha : Ty G c1 ta Γ (· = i)) (hb : Ty G c2 tb Γ (· = j)) (hc : Ty G c3 tc Γ (· = k)) :
    Ty G (c1 + c2 + c3) (tChain (rI0 fun a b => .bl (p a b)) (rI0 fun a b => .bl (p' a b)) ta tb tc) Γ (· = (p i j && p' j k)) := ty_chain ha hb hc
/-- 1 << w -/
theorem ty_shl (h : Ty G c te Γ (· = i)) (h0 : 0 ≤ i ∧ i ≤ 1000) : Ty G (0 + c) (tOp (rI CPow fun a b => .int (a * 2 ^ b.toNat)) (tC (.int 1)) te) Γ (· = (2 : Int) ^ i.toNat) :=
  (ty_I (f := fun a b => a * 2 ^ b.toNat) ty_i h (show CPow 1 i from ⟨h0.1, by omega, by decide⟩)).to (by show (1 : Int) * 2 ^ i.toNat = 2 ^ i.toNat; rw [Int.one_mul])
theorem ty_lenT {ds : List Dat} (h : Ty G c ta Γ (· = Dat.tup ds)) : Ty G (c + 0) (tCB (rLenS K) (tCons ta tNil)) Γ (· = (ds.length : Int)) :=
  ty_cb (ta_cons h ta_nil) fun vs B al z B' H e s Q q => by
    obtain ⟨v, rfl, hv⟩ := al.one
    cases (show DatV B (.tup ds) v from hv) with
    | tup h1 h2 =>
      refine ⟨_, _, rfl, Or.inr (st_of (s.ex _ _ (e _ _ h1))), q _ _ z B' H rfl (.refl s) ?_⟩
      show V.int _ = V.int _
      rw [h2.each.len]
theorem ty_ixT {ds : List Dat} {d : Dat} (ha : Ty G c1 ta Γ (· = Dat.tup ds)) (hb : Ty G c2 tb Γ (· = i)) (hx : atI ds i = some d) : Ty G (c1 + c2) (tOp (rIxT K) ta tb) Γ (· = d) :=
  ty_op ha hb fun x y v w B ex ey hv hw z B' H e s Q q => by
    subst ex ey
    cases (show w = .int y from hw)
    cases (show DatV B (.tup ds) v from hv) with
    | tup h1 h2 =>
      obtain ⟨u, e2, hu⟩ := h2.each.at hx
      exact ⟨_, _, y, u, rfl, rfl, st_of (s.ex _ _ (e _ _ h1)), e2, q _ u z B' H rfl (.refl s) (Py.st _ _ _ _ e hu)⟩
/-- == [], != [], whatever the list holds -/
def rEqNil (K : PySem.W.Frag) : R2 := fun x y H Q => ∃ p q xs, x = .ref p ∧ y = .ref q ∧ SqL K H p xs ∧ SqL K H q [] ∧ Q (.bl xs.isEmpty) H
def rNeNil (K : PySem.W.Frag) : R2 := fun x y H Q => ∃ p q xs, x = .ref p ∧ y = .ref q ∧ SqL K H p xs ∧ SqL K H q [] ∧ Q (.bl !xs.isEmpty) H
theorem ty_eqNil {xs : List α} (ha : Ty G c ta Γ (· = xs)) : Ty G (c + 0) (tOp (rEqNil K) ta (tLst tNil)) Γ (· = xs.isEmpty) :=
  ty_op ha (ty_nil (α := Int)) fun x y v w B ex ey hv hw z B' H e s Q q => by
    obtain ⟨p, us, rfl, h1, h2⟩ := hv
    obtain ⟨p', us', rfl, h1', h2'⟩ := hw
    subst ex ey
    cases h2'
    refine ⟨p, p', us, rfl, rfl, sq_of (s.ex _ _ (e _ _ h1)), sq_of (s.ex _ _ (e _ _ h1')), q _ _ z B' H rfl (.refl s) ?_⟩
    show V.bl _ = V.bl _
    have := h2.len
    cases us with
    | nil => cases x with
      | nil => rfl
      | cons _ _ => cases this
    | cons _ _ => cases x with
      | nil => cases this
      | cons _ _ => rfl
theorem ty_neNil {xs : List α} (ha : Ty G c ta Γ (· = xs)) : Ty G (c + 0) (tOp (rNeNil K) ta (tLst tNil)) Γ (· = !xs.isEmpty) :=
  ty_op ha (ty_nil (α := Int)) fun x y v w B ex ey hv hw z B' H e s Q q => by
    obtain ⟨p, us, rfl, h1, h2⟩ := hv
    obtain ⟨p', us', rfl, h1', h2'⟩ := hw
    subst ex ey
    cases h2'
    refine ⟨p, p', us, rfl, rfl, sq_of (s.ex _ _ (e _ _ h1)), sq_of (s.ex _ _ (e _ _ h1')), q _ _ z B' H rfl (.refl s) ?_⟩
    show V.bl _ = V.bl _
    have := h2.len
    cases us with
    | nil => cases x with
      | nil => rfl
      | cons _ _ => cases this
    | cons _ _ => cases x with
      | nil => cases this
      | cons _ _ => rfl
end
section
variable {X : Cx}
open PySem.SeqAt in
theorem op_eqNil (hu : X.A.units < cLine) : OpR X (compareOp .Eq) (rEqNil X.K) := by
  intro pins s σ H x y v u Q I rx ry h
  obtain ⟨p, q, xs, rfl, rfl, hp, hq, go⟩ := h
  cases rx
  cases ry
  obtain ⟨us, r1, ⟨o1, n1, g1, c1, d1, e1⟩, _⟩ := I.list hp
  obtain ⟨ws, r2, ⟨o2, n2, g2, c2, d2, e2⟩, _⟩ := I.list hq
  cases r2
  have fin : EP X pins σ Q (.bool xs.isEmpty) s := ⟨.bl xs.isEmpty, H, I, rfl, go⟩
  show wpAny _ _ (richCompare .Eq _ _) _ _ _
  cases r1 with
  | nil =>
    exact RcAt.lists (e := fun _ => true) ⟨o1, g1, c1, n1, e1⟩ ⟨o2, g2, c2, n2, e2⟩ rfl hu (fun j h1 _ => absurd h1 (by simp)) X.prog X.w _ _ fin
  | cons a b =>
    exact RcAt.lists_lengths ⟨o1, g1, c1, n1, e1⟩ ⟨o2, g2, c2, n2, e2⟩ (by simp) hu X.prog X.w _ _ fin
open PySem.SeqAt in
theorem op_neNil (hu : X.A.units < cLine) : OpR X (compareOp .NotEq) (rNeNil X.K) := by
  intro pins s σ H x y v u Q I rx ry h
  obtain ⟨p, q, xs, rfl, rfl, hp, hq, go⟩ := h
  cases rx
  cases ry
  obtain ⟨us, r1, ⟨o1, n1, g1, c1, d1, e1⟩, _⟩ := I.list hp
  obtain ⟨ws, r2, ⟨o2, n2, g2, c2, d2, e2⟩, _⟩ := I.list hq
  cases r2
  have fin : EP X pins σ Q (.bool !xs.isEmpty) s := ⟨.bl !xs.isEmpty, H, I, rfl, go⟩
  show wpAny _ _ (richCompare .NotEq _ _) _ _ _
  cases r1 with
  | nil =>
    exact RcNeAt.lists (e := fun _ => true) ⟨o1, g1, c1, n1, e1⟩ ⟨o2, g2, c2, n2, e2⟩ rfl hu (fun j h1 _ => absurd h1 (by simp)) X.prog X.w _ _ fin
  | cons a b =>
    exact RcNeAt.lists_lengths ⟨o1, g1, c1, n1, e1⟩ ⟨o2, g2, c2, n2, e2⟩ (by simp) hu X.prog X.w _ _ fin
end
end AP

set_option maxHeartbeats 4000000
/-! Calls of the judging defs. -/
namespace AP
open PySem PySem.Spec PyProof.Rows L2 Evl
section
variable {G : Option Addr} {c0 c1 c2 c3 : Nat} {t0 t1 t2 t3 : TE} {Γ : Ctx}
theorem y_whole {d : Dat} {E : XK} (h0 : Ty G c0 t0 Γ (· = d))  : Ty G ((c0 + 0) + 0) (tCall cWhole.sp [] E (tCons t0 tNil)) Γ (· = d.whole) := ty_call (C := cWhole) d (ta_cons h0 ta_nil) trivial
theorem k_whole {d : Dat} {E : XK} (h0 : Ty G c0 t0 Γ (· = d))  : Ty G (0 + (c0 + 0) + 0) (tCallK cWhole.sp (fun _ ks => ks.reverse) E tNil (tCons t0 tNil)) Γ (· = d.whole) := ty_callR (C := cWhole) d (ta_cons h0 ta_nil) trivial
theorem y_between {d : Dat} {lo : Int} {hi : Int} {E : XK} (h0 : Ty G c0 t0 Γ (· = d)) (h1 : Ty G c1 t1 Γ (· = lo)) (h2 : Ty G c2 t2 Γ (· = hi))  : Ty G ((c0 + (c1 + (c2 + 0))) + 0) (tCall cBetween.sp [] E (tCons t0 (tCons t1 (tCons t2 tNil)))) Γ (· = d.within lo hi) := ty_call (C := cBetween) (d, lo, hi) (ta_cons h0 (ta_cons h1 (ta_cons h2 ta_nil))) trivial
theorem k_between {d : Dat} {lo : Int} {hi : Int} {E : XK} (h0 : Ty G c0 t0 Γ (· = d)) (h1 : Ty G c1 t1 Γ (· = lo)) (h2 : Ty G c2 t2 Γ (· = hi))  : Ty G (0 + (c2 + (c1 + (c0 + 0))) + 0) (tCallK cBetween.sp (fun _ ks => ks.reverse) E tNil (tCons t2 (tCons t1 (tCons t0 tNil)))) Γ (· = d.within lo hi) := ty_callR (C := cBetween) (d, lo, hi) (ta_cons h2 (ta_cons h1 (ta_cons h0 ta_nil))) trivial
theorem y_fitsWidth {d : Dat} {E : XK} (h0 : Ty G c0 t0 Γ (· = d))  : Ty G ((c0 + 0) + 0) (tCall cFitsWidth.sp [] E (tCons t0 tNil)) Γ (· = d.within 1 64) := ty_call (C := cFitsWidth) d (ta_cons h0 ta_nil) trivial
theorem k_fitsWidth {d : Dat} {E : XK} (h0 : Ty G c0 t0 Γ (· = d))  : Ty G (0 + (c0 + 0) + 0) (tCallK cFitsWidth.sp (fun _ ks => ks.reverse) E tNil (tCons t0 tNil)) Γ (· = d.within 1 64) := ty_callR (C := cFitsWidth) d (ta_cons h0 ta_nil) trivial
theorem y_fitsWord {w : Int} {d : Dat} {E : XK} (h0 : Ty G c0 t0 Γ (· = w)) (h1 : Ty G c1 t1 Γ (· = d)) (p : wOk w) : Ty G ((c0 + (c1 + 0)) + 0) (tCall cFitsWord.sp [] E (tCons t0 (tCons t1 tNil))) Γ (· = d.word w) := ty_call (C := cFitsWord) (w, d) (ta_cons h0 (ta_cons h1 ta_nil)) p
theorem k_fitsWord {w : Int} {d : Dat} {E : XK} (h0 : Ty G c0 t0 Γ (· = w)) (h1 : Ty G c1 t1 Γ (· = d)) (p : wOk w) : Ty G (0 + (c1 + (c0 + 0)) + 0) (tCallK cFitsWord.sp (fun _ ks => ks.reverse) E tNil (tCons t1 (tCons t0 tNil))) Γ (· = d.word w) := ty_callR (C := cFitsWord) (w, d) (ta_cons h1 (ta_cons h0 ta_nil)) p
theorem y_areWords {w : Int} {d : Dat} {E : XK} (h0 : Ty G c0 t0 Γ (· = w)) (h1 : Ty G c1 t1 Γ (· = d)) (p : wOk w ∧ d.small) : Ty G ((c0 + (c1 + 0)) + 0) (tCall cAreWords.sp [] E (tCons t0 (tCons t1 tNil))) Γ (· = wordsB w d) := ty_call (C := cAreWords) (w, d) (ta_cons h0 (ta_cons h1 ta_nil)) p
theorem k_areWords {w : Int} {d : Dat} {E : XK} (h0 : Ty G c0 t0 Γ (· = w)) (h1 : Ty G c1 t1 Γ (· = d)) (p : wOk w ∧ d.small) : Ty G (0 + (c1 + (c0 + 0)) + 0) (tCallK cAreWords.sp (fun _ ks => ks.reverse) E tNil (tCons t1 (tCons t0 tNil))) Γ (· = wordsB w d) := ty_callR (C := cAreWords) (w, d) (ta_cons h1 (ta_cons h0 ta_nil)) p
theorem y_climbs {ns : List Int} {E : XK} (h0 : Ty G c0 t0 Γ (· = ns)) (p : ns.length ≤ 30000) : Ty G ((c0 + 0) + 0) (tCall cClimbs.sp [] E (tCons t0 tNil)) Γ (· = climbs ns) := ty_call (C := cClimbs) ns (ta_cons h0 ta_nil) p
theorem k_climbs {ns : List Int} {E : XK} (h0 : Ty G c0 t0 Γ (· = ns)) (p : ns.length ≤ 30000) : Ty G (0 + (c0 + 0) + 0) (tCallK cClimbs.sp (fun _ ks => ks.reverse) E tNil (tCons t0 tNil)) Γ (· = climbs ns) := ty_callR (C := cClimbs) ns (ta_cons h0 ta_nil) p
theorem y_arePlaces {w : Int} {d : Dat} {E : XK} (h0 : Ty G c0 t0 Γ (· = w)) (h1 : Ty G c1 t1 Γ (· = d)) (p : wOk w ∧ d.small) : Ty G ((c0 + (c1 + 0)) + 0) (tCall cArePlaces.sp [] E (tCons t0 (tCons t1 tNil))) Γ (· = placesB w d) := ty_call (C := cArePlaces) (w, d) (ta_cons h0 (ta_cons h1 ta_nil)) p
theorem k_arePlaces {w : Int} {d : Dat} {E : XK} (h0 : Ty G c0 t0 Γ (· = w)) (h1 : Ty G c1 t1 Γ (· = d)) (p : wOk w ∧ d.small) : Ty G (0 + (c1 + (c0 + 0)) + 0) (tCallK cArePlaces.sp (fun _ ks => ks.reverse) E tNil (tCons t1 (tCons t0 tNil))) Γ (· = placesB w d) := ty_callR (C := cArePlaces) (w, d) (ta_cons h1 (ta_cons h0 ta_nil)) p
theorem y_wordsAt {w : Int} {ns : List Int} {d : Dat} {E : XK} (h0 : Ty G c0 t0 Γ (· = w)) (h1 : Ty G c1 t1 Γ (· = ns)) (h2 : Ty G c2 t2 Γ (· = d)) (p : wOk w ∧ d.small) : Ty G ((c0 + (c1 + (c2 + 0))) + 0) (tCall cWordsAt.sp [] E (tCons t0 (tCons t1 (tCons t2 tNil)))) Γ (· = wordsAtB w ns.length d) := ty_call (C := cWordsAt) (w, ns, d) (ta_cons h0 (ta_cons h1 (ta_cons h2 ta_nil))) p
theorem k_wordsAt {w : Int} {ns : List Int} {d : Dat} {E : XK} (h0 : Ty G c0 t0 Γ (· = w)) (h1 : Ty G c1 t1 Γ (· = ns)) (h2 : Ty G c2 t2 Γ (· = d)) (p : wOk w ∧ d.small) : Ty G (0 + (c2 + (c1 + (c0 + 0))) + 0) (tCallK cWordsAt.sp (fun _ ks => ks.reverse) E tNil (tCons t2 (tCons t1 (tCons t0 tNil)))) Γ (· = wordsAtB w ns.length d) := ty_callR (C := cWordsAt) (w, ns, d) (ta_cons h2 (ta_cons h1 (ta_cons h0 ta_nil))) p
theorem y_knownOne {w : Int} {ns : List Int} {d : Dat} {E : XK} (h0 : Ty G c0 t0 Γ (· = w)) (h1 : Ty G c1 t1 Γ (· = ns)) (h2 : Ty G c2 t2 Γ (· = d)) (p : wOk w) : Ty G ((c0 + (c1 + (c2 + 0))) + 0) (tCall cKnownOne.sp [] E (tCons t0 (tCons t1 (tCons t2 tNil)))) Γ (· = knownOneB w ns d) := ty_call (C := cKnownOne) (w, ns, d) (ta_cons h0 (ta_cons h1 (ta_cons h2 ta_nil))) p
theorem k_knownOne {w : Int} {ns : List Int} {d : Dat} {E : XK} (h0 : Ty G c0 t0 Γ (· = w)) (h1 : Ty G c1 t1 Γ (· = ns)) (h2 : Ty G c2 t2 Γ (· = d)) (p : wOk w) : Ty G (0 + (c2 + (c1 + (c0 + 0))) + 0) (tCallK cKnownOne.sp (fun _ ks => ks.reverse) E tNil (tCons t2 (tCons t1 (tCons t0 tNil)))) Γ (· = knownOneB w ns d) := ty_callR (C := cKnownOne) (w, ns, d) (ta_cons h2 (ta_cons h1 (ta_cons h0 ta_nil))) p
theorem y_known {w : Int} {ns : List Int} {d : Dat} {E : XK} (h0 : Ty G c0 t0 Γ (· = w)) (h1 : Ty G c1 t1 Γ (· = ns)) (h2 : Ty G c2 t2 Γ (· = d)) (p : wOk w ∧ d.small) : Ty G ((c0 + (c1 + (c2 + 0))) + 0) (tCall cKnown.sp [] E (tCons t0 (tCons t1 (tCons t2 tNil)))) Γ (· = knownB w ns d) := ty_call (C := cKnown) (w, ns, d) (ta_cons h0 (ta_cons h1 (ta_cons h2 ta_nil))) p
theorem k_known {w : Int} {ns : List Int} {d : Dat} {E : XK} (h0 : Ty G c0 t0 Γ (· = w)) (h1 : Ty G c1 t1 Γ (· = ns)) (h2 : Ty G c2 t2 Γ (· = d)) (p : wOk w ∧ d.small) : Ty G (0 + (c2 + (c1 + (c0 + 0))) + 0) (tCallK cKnown.sp (fun _ ks => ks.reverse) E tNil (tCons t2 (tCons t1 (tCons t0 tNil)))) Γ (· = knownB w ns d) := ty_callR (C := cKnown) (w, ns, d) (ta_cons h2 (ta_cons h1 (ta_cons h0 ta_nil))) p
theorem y_needWidth {w : Int} {E : XK} (h0 : Ty G c0 t0 Γ (· = w)) (p : wOk w) : Ty G ((c0 + 0) + 0) (tCall cNeedWidth.sp [] E (tCons t0 tNil)) Γ (fun _ : Unit => True) := ty_call (C := cNeedWidth) w (ta_cons h0 ta_nil) p
theorem k_needWidth {w : Int} {E : XK} (h0 : Ty G c0 t0 Γ (· = w)) (p : wOk w) : Ty G (0 + (c0 + 0) + 0) (tCallK cNeedWidth.sp (fun _ ks => ks.reverse) E tNil (tCons t0 tNil)) Γ (fun _ : Unit => True) := ty_callR (C := cNeedWidth) w (ta_cons h0 ta_nil) p
theorem y_needPlaces {w : Int} {ns : List Int} {E : XK} (h0 : Ty G c0 t0 Γ (· = w)) (h1 : Ty G c1 t1 Γ (· = ns)) (p : wOk w ∧ Places w ns) : Ty G ((c0 + (c1 + 0)) + 0) (tCall cNeedPlaces.sp [] E (tCons t0 (tCons t1 tNil))) Γ (fun _ : Unit => True) := ty_call (C := cNeedPlaces) (w, ns) (ta_cons h0 (ta_cons h1 ta_nil)) p
theorem k_needPlaces {w : Int} {ns : List Int} {E : XK} (h0 : Ty G c0 t0 Γ (· = w)) (h1 : Ty G c1 t1 Γ (· = ns)) (p : wOk w ∧ Places w ns) : Ty G (0 + (c1 + (c0 + 0)) + 0) (tCallK cNeedPlaces.sp (fun _ ks => ks.reverse) E tNil (tCons t1 (tCons t0 tNil))) Γ (fun _ : Unit => True) := ty_callR (C := cNeedPlaces) (w, ns) (ta_cons h1 (ta_cons h0 ta_nil)) p
theorem y_isWidth {d : Dat} {E : XK} (h0 : Ty G c0 t0 Γ (· = d))  : Ty G ((c0 + 0) + 0) (tCall cIsWidth.sp [] E (tCons t0 tNil)) Γ (· = d.within 1 64) := ty_call (C := cIsWidth) d (ta_cons h0 ta_nil) trivial
theorem k_isWidth {d : Dat} {E : XK} (h0 : Ty G c0 t0 Γ (· = d))  : Ty G (0 + (c0 + 0) + 0) (tCallK cIsWidth.sp (fun _ ks => ks.reverse) E tNil (tCons t0 tNil)) Γ (· = d.within 1 64) := ty_callR (C := cIsWidth) d (ta_cons h0 ta_nil) trivial
theorem y_isWord {w : Int} {d : Dat} {E : XK} (h0 : Ty G c0 t0 Γ (· = w)) (h1 : Ty G c1 t1 Γ (· = d)) (p : wOk w) : Ty G ((c0 + (c1 + 0)) + 0) (tCall cIsWord.sp [] E (tCons t0 (tCons t1 tNil))) Γ (· = d.word w) := ty_call (C := cIsWord) (w, d) (ta_cons h0 (ta_cons h1 ta_nil)) p
theorem k_isWord {w : Int} {d : Dat} {E : XK} (h0 : Ty G c0 t0 Γ (· = w)) (h1 : Ty G c1 t1 Γ (· = d)) (p : wOk w) : Ty G (0 + (c1 + (c0 + 0)) + 0) (tCallK cIsWord.sp (fun _ ks => ks.reverse) E tNil (tCons t1 (tCons t0 tNil))) Γ (· = d.word w) := ty_callR (C := cIsWord) (w, d) (ta_cons h1 (ta_cons h0 ta_nil)) p
theorem y_isPlaces {w : Int} {d : Dat} {E : XK} (h0 : Ty G c0 t0 Γ (· = w)) (h1 : Ty G c1 t1 Γ (· = d)) (p : wOk w ∧ d.small) : Ty G ((c0 + (c1 + 0)) + 0) (tCall cIsPlaces.sp [] E (tCons t0 (tCons t1 tNil))) Γ (· = placesB w d) := ty_call (C := cIsPlaces) (w, d) (ta_cons h0 (ta_cons h1 ta_nil)) p
theorem k_isPlaces {w : Int} {d : Dat} {E : XK} (h0 : Ty G c0 t0 Γ (· = w)) (h1 : Ty G c1 t1 Γ (· = d)) (p : wOk w ∧ d.small) : Ty G (0 + (c1 + (c0 + 0)) + 0) (tCallK cIsPlaces.sp (fun _ ks => ks.reverse) E tNil (tCons t1 (tCons t0 tNil))) Γ (· = placesB w d) := ty_callR (C := cIsPlaces) (w, d) (ta_cons h1 (ta_cons h0 ta_nil)) p
theorem y_isWords {w : Int} {ns : List Int} {d : Dat} {E : XK} (h0 : Ty G c0 t0 Γ (· = w)) (h1 : Ty G c1 t1 Γ (· = ns)) (h2 : Ty G c2 t2 Γ (· = d)) (p : wOk w ∧ Places w ns ∧ d.small) : Ty G ((c0 + (c1 + (c2 + 0))) + 0) (tCall cIsWords.sp [] E (tCons t0 (tCons t1 (tCons t2 tNil)))) Γ (· = wordsAtB w ns.length d) := ty_call (C := cIsWords) (w, ns, d) (ta_cons h0 (ta_cons h1 (ta_cons h2 ta_nil))) p
theorem k_isWords {w : Int} {ns : List Int} {d : Dat} {E : XK} (h0 : Ty G c0 t0 Γ (· = w)) (h1 : Ty G c1 t1 Γ (· = ns)) (h2 : Ty G c2 t2 Γ (· = d)) (p : wOk w ∧ Places w ns ∧ d.small) : Ty G (0 + (c2 + (c1 + (c0 + 0))) + 0) (tCallK cIsWords.sp (fun _ ks => ks.reverse) E tNil (tCons t2 (tCons t1 (tCons t0 tNil)))) Γ (· = wordsAtB w ns.length d) := ty_callR (C := cIsWords) (w, ns, d) (ta_cons h2 (ta_cons h1 (ta_cons h0 ta_nil))) p
theorem y_isKnown {w : Int} {ns : List Int} {d : Dat} {E : XK} (h0 : Ty G c0 t0 Γ (· = w)) (h1 : Ty G c1 t1 Γ (· = ns)) (h2 : Ty G c2 t2 Γ (· = d)) (p : wOk w ∧ Places w ns ∧ d.small) : Ty G ((c0 + (c1 + (c2 + 0))) + 0) (tCall cIsKnown.sp [] E (tCons t0 (tCons t1 (tCons t2 tNil)))) Γ (· = knownB w ns d) := ty_call (C := cIsKnown) (w, ns, d) (ta_cons h0 (ta_cons h1 (ta_cons h2 ta_nil))) p
theorem k_isKnown {w : Int} {ns : List Int} {d : Dat} {E : XK} (h0 : Ty G c0 t0 Γ (· = w)) (h1 : Ty G c1 t1 Γ (· = ns)) (h2 : Ty G c2 t2 Γ (· = d)) (p : wOk w ∧ Places w ns ∧ d.small) : Ty G (0 + (c2 + (c1 + (c0 + 0))) + 0) (tCallK cIsKnown.sp (fun _ ks => ks.reverse) E tNil (tCons t2 (tCons t1 (tCons t0 tNil)))) Γ (· = knownB w ns d) := ty_callR (C := cIsKnown) (w, ns, d) (ta_cons h2 (ta_cons h1 (ta_cons h0 ta_nil))) p
end
end AP

set_option maxHeartbeats 4000000
/-! Draws. -/
namespace AP
open PySem PySem.Spec PyProof.Rows L2 Evl
def cRandom : Con (Addr × Int) Int := ⟨fun i => [Py.is (GenR.mk i.1), Py.is i.2], fun i G => G = some i.1 ∧ 0 < i.2 ∧ i.2.natAbs < 2 ^ 8999, fun _ => 300, fun i n => 0 ≤ n ∧ n < i.2⟩
theorem random_con {P : Program} {w : World} {K : PySem.W.Frag} {mg : Str → Option Value} {base : Heap} {k : Nat} {f : Addr} {fd : FuncData} {ps : List Str}
    (F : FnOk P w K mg base CX0 k f fd ps spRandom) : FnOk P w K mg base CX0 k f fd ps cRandom.sp := F.imp fun vs H Q E h => by
  obtain ⟨⟨g, b⟩, G, z, B, al, ⟨eG, hb, hb'⟩, at0, hz, q⟩ := h
  subst eG
  obtain ⟨v, w, rfl, hv, hw⟩ := al.two
  cases (show v = .ref g from hv)
  cases (show w = .int b from hw)
  obtain ⟨nB, x, y, hg, hx, hy, hy', hz0⟩ := at0.gen g rfl
  have hz' : z + 300 ≤ 2 ^ 50 := hz
  refine ⟨g, b, x, y, z, rfl, ⟨hg, hx, hy, hz0, by omega⟩, hb, hb', fun n x' z' H' n0 n1 hg' oth hzz => ?_⟩
  refine q n (.int n) z' B H' ⟨n0, n1⟩ ⟨⟨fun a o e => ?_, fun g' e => ?_⟩, Ex.refl _, fun _ _ h => .inl h, hzz, by have := hg'.2.2.2.2; show z' ≤ z + 300; omega, fun a o hne h => ?_⟩ rfl
  · rw [oth a (ne_of_none e nB)]
    exact at0.ex a o e
  · cases e
    exact ⟨nB, x', y, hg'.1, hg'.2.1, hy, hy', hg'.2.2.2.1⟩
  · rw [oth a fun e => hne (congrArg some e.symm)]
    exact h
section
variable {K : PySem.W.Frag} {G : Option Addr} {c c0 c1 c2 : Nat} {t0 t1 te ta tb : TE} {Γ : Ctx} {g : Addr} {b : Int} {tr : TA} {α : Type} [Py α]
theorem y_random {E : XK} (h0 : Ty (some g) c0 t0 Γ (· = GenR.mk g)) (h1 : Ty (some g) c1 t1 Γ (· = b)) (p : 0 < b ∧ b.natAbs < 2 ^ 8999) :
    Ty (some g) (c0 + (c1 + 0) + 300) (tCall cRandom.sp [] E (tCons t0 (tCons t1 tNil))) Γ (fun n : Int => 0 ≤ n ∧ n < b) :=
  ty_call (C := cRandom) (g, b) (ta_cons h0 (ta_cons h1 ta_nil)) ⟨rfl, p⟩
theorem small_b {b : Int} (h : 0 < b) (h1 : b ≤ 2 ^ 200) : 0 < b ∧ b.natAbs < 2 ^ 8999 := by
  refine ⟨h, ?_⟩
  have e : ((2 : Int) ^ 200) = ((2 ^ 200 : Nat) : Int) := by norm_cast
  have h2 : b.natAbs ≤ 2 ^ 200 := by omega
  exact Nat.lt_of_le_of_lt h2 (Nat.pow_lt_pow_right (by decide) (by decide))
theorem ti_rng1N {A : Int → Prop} {j : Nat} (h : TyA G c tr Γ [isA A]) (hn : ∀ n, A n → -(2 ^ 62) ≤ n ∧ n < 2 ^ 62) : TyI G c (iRng1 tr) (gName j) Γ [j] (fun m => ∃ n, A n ∧ m = n.toNat) (fun i Γ => Γ.set j (some (Py.is (i : Int)))) := fun z B σ H en s hz R r => by
  refine h z B σ H en s hz _ fun vs z1 B1 H1 al n1 => ?_
  obtain ⟨v, rfl, n, an, hv⟩ := al.one
  cases (show v = .int n from hv)
  exact ⟨n, rfl, (hn n an).1, (hn n an).2, r _ _ z1 B1 H1 ⟨n, an, rfl⟩ n1 (src_name (fun i => Py.stays (i : Int)) (fun H e => Nat.le_refl _) (fun i hi H e => hi) fun i hi x' H H' e y => ⟨y.1, by rw [y.2]; show V.int _ = V.int _; rw [Int.zero_add]⟩)⟩
/-! powers -/
def cPower : Con (Int × Int) Int := ⟨fun i => [Py.is i.1, Py.is i.2], fun i _ => 0 ≤ i.2 ∧ i.2 ≤ 1000 ∧ i.1.natAbs < 2 ^ 200, fun _ => 0, fun i n => n = i.1 ^ i.2.toNat⟩
theorem y_power {E : XK} {n t : Int} (h0 : Ty G c0 t0 Γ (· = n)) (h1 : Ty G c1 t1 Γ (· = t)) (p : 0 ≤ t ∧ t ≤ 1000 ∧ n.natAbs < 2 ^ 200) : Ty G (c0 + (c1 + 0) + 0) (tCall cPower.sp [] E (tCons t0 (tCons t1 tNil))) Γ (· = n ^ t.toNat) :=
  ty_call (C := cPower) (n, t) (ta_cons h0 (ta_cons h1 ta_nil)) p
theorem pow_lt {n : Int} {a : Nat} (h : n.natAbs < 2 ^ a) (i : Nat) : (n ^ i).natAbs < 2 ^ (a * i + 1) := by
  rw [Int.natAbs_pow]
  have h1 : n.natAbs ^ i ≤ (2 ^ a) ^ i := Nat.pow_le_pow_left (Nat.le_of_lt h) i
  rw [← Nat.pow_mul] at h1
  exact Nat.lt_of_le_of_lt h1 (Nat.pow_lt_pow_right (by decide) (Nat.lt_succ_self _))
theorem mul_pow {n : Int} (h : n.natAbs < 2 ^ 200) {i : Nat} (hi : i ≤ 1000) : CMulW (n ^ i) n := wide_mul (pow_lt h i) h (by omega) (by decide) (by omega)
theorem two_pow (t : Int) (h : 0 ≤ t) (h1 : t ≤ 200) : (0 : Int) < 2 ^ t.toNat ∧ (2 : Int) ^ t.toNat ≤ 2 ^ 200 := by
  have e : ∀ k : Nat, ((2 : Int) ^ k) = ((2 ^ k : Nat) : Int) := fun k => by norm_cast
  rw [e, e]
  have a := Nat.two_pow_pos t.toNat
  have b : 2 ^ t.toNat ≤ 2 ^ 200 := Nat.pow_le_pow_right (by decide) (by omega)
  omega
theorem q_noret {G : Option Addr} {A : Bool → Prop} : True := trivial
end
end AP

set_option maxHeartbeats 4000000
/-! Lists that are not told one by one; pairs; dicts made on the way. -/
namespace AP
open PySem PySem.Spec PyProof.Rows L2 Evl
section
variable {K : PySem.W.Frag} {G : Option Addr} {c c0 c1 c2 c3 : Nat} {te ta tb tx t0 t1 : TE} {tt tu : TT} {Γ : Ctx} {α β : Type} [Py α] [Py β] {tr : TA} {B B' H : Hp} {v w : V} {i j : Int} {σ : L2.St}
theorem ti_listN {A : List α → Prop} {P : α → Prop} {tl : TE} {j : Nat} (h : Ty G c tl Γ A) (hp : ∀ xs, A xs → ∀ x ∈ xs, P x) :
    TyI G c (iList K tl) (gName j) Γ [j] (fun m => ∃ xs, A xs ∧ m = xs.length) (fun _ Γ => Γ.set j (some (isA P))) := fun z B σ H en s hz R r => by
  refine h z B σ H en s hz _ fun xs v z1 B1 H1 ax n1 hv => ?_
  obtain ⟨p, us, rfl, e1, e2⟩ := hv
  refine ⟨p, rfl, ⟨us, sq_of (n1.at_.ex _ _ e1)⟩, r _ _ z1 B1 H1 ⟨xs, ax, rfl⟩ n1 (src_name (f := fun _ => isA P) (fun _ => isA.stays P) (fun H e => ⟨us, sq_of (e _ _ e1), Nat.le_of_eq e2.len⟩) (fun i hi H e => ?_) fun i hi x' H H' e y => ?_)⟩
  · have lt : i < us.length := by rw [e2.len]; exact hi
    exact ⟨us, us[i], sq_of (e _ _ e1), List.getElem?_eq_getElem lt⟩
  · obtain ⟨q1, q2⟩ := y
    obtain ⟨x, h1, h2⟩ := e2.got (q2 us (sq_of (e _ _ e1)))
    exact ⟨q1, x, hp xs ax x (List.mem_of_getElem? h1), h2⟩
/-- name what a slot holds -/
theorem Slo.name {P : α → Prop} {k : Nat} (en : Slo B σ Γ) (h : Γ[k]? = some (some (isA P))) : ∃ x, P x ∧ Slo B σ (Γ.set k (some (Py.is x))) := by
  obtain ⟨v, h1, _, x, h2, h3⟩ := en.all k _ h
  refine ⟨x, h2, ?_⟩
  have e := en.put (i := k) h3
  have lt : k < σ.length := (List.getElem?_eq_some_iff.mp h1).1
  have : σ.set k (some v) = σ := by
    apply List.ext_getElem?
    intro m
    by_cases hm : k = m
    · subst hm
      rw [List.getElem?_set_self lt, h1]
    · rw [List.getElem?_set_ne hm]
  rw [this] at e
  exact e
theorem sel_all {T : Nat → Bool → Prop} {A : Nat → α → Prop} {P : α → Prop} (hA : ∀ i y, A i y → P y) : ∀ {m : Nat} {ys : List α}, Sel T A m ys → ∀ y ∈ ys, P y
  | _, _, .nil => by simp
  | _, _, .no h _ => sel_all hA h
  | _, _, .yes h _ a => fun y hy => by
    rcases List.mem_append.mp hy with h' | h'
    · exact sel_all hA h y h'
    · rw [List.mem_singleton.mp h']
      exact hA _ _ a
theorem sel_len {T : Nat → Bool → Prop} {A : Nat → α → Prop} (hT : ∀ i b, T i b → b = true) : ∀ {m : Nat} {ys : List α}, Sel T A m ys → ys.length = m
  | _, _, .nil => rfl
  | _, _, .no h t => Bool.noConfusion (hT _ _ t)
  | _, _, .yes h _ _ => by rw [List.length_append, sel_len hT h] <;> rfl
theorem ty_tup2N {A : α → Prop} {A' : β → Prop} (h1 : Ty G c1 ta Γ A) (h2 : Ty G c2 tb Γ A') : Ty G (c1 + c2) (tTup (tCons ta (tCons tb tNil))) Γ (fun x : α × β => A x.1 ∧ A' x.2) := fun z B σ H en s hz Q q => by
  refine h1 z B σ H en s (by omega) _ fun x' v z1 B1 H1 ex n1 hv => ?_
  refine h2 z1 B1 σ H1 (en.up n1.up) n1.at_ (by have := n1.hi; omega) _ fun y' w z2 B2 H2 ey n2 hw => ?_
  refine ⟨sz_of (by simp), fun p hp => ?_⟩
  obtain ⟨n3, is3⟩ := new_tup n2.at_ hp (Py.st _ _ _ _ n2.up hv) hw
  exact q _ _ _ _ _ ⟨ex, ey⟩ (((n1.trans s n2).trans s n3).le (by omega)) is3
/-- a tuple of values of any kind -/
theorem ty_tupD {ds : List Dat} (h : TyL G c tr Γ (· = ds)) (small : ds.length ≤ 100000) : Ty G c (tTup tr) Γ (· = Dat.tup ds) := fun z B σ H en s hz Q q =>
  h z B σ H en s hz _ fun xs vs z1 B1 H1 ax ea n1 => ⟨sz_of (by rw [ea.len, ax]; exact small), fun p hp => by
    have n2 := Nx.alloc (o := .tup vs) n1.at_ hp
    subst ax
    exact q _ _ _ _ _ rfl ((n1.trans s n2).le (by omega)) (.tup upd_same (ea.ex n2.up).dats)⟩
theorem ty_dnew : Ty G 0 tDNewK Γ (· = Dat.dic) := fun z B σ H en s hz Q q => fun p hp => by
  have n2 := Nx.alloc (o := .dK []) s hp
  exact q _ _ _ _ _ rfl n2 (.dic upd_same)
/-- tuple(xs) of a list -/
def rTupleOf (K : PySem.W.Frag) : List V → Hp → VK → Prop := fun xs H Q => ∃ p ys, xs = [.ref p] ∧ ((SqL K H p ys ∧ ∀ l, H l = none → Q (.ref l) (upd H l (.tup ys))) ∨ (SqT K H p ys ∧ Q (.ref p) H))
theorem ty_tupleOf {ds : List Dat} (h : Ty G c ta Γ (· = ds)) : Ty G (c + 0) (tCB (rTupleOf K) (tCons ta tNil)) Γ (· = Dat.tup ds) :=
  ty_cb (ta_cons h ta_nil) fun vs B al z B' H e s Q q => by
    obtain ⟨v, rfl, p, us, rfl, h1, h2⟩ := al.one
    refine ⟨p, us, rfl, Or.inl ⟨sq_of (s.ex _ _ (e _ _ h1)), fun r hr => ?_⟩⟩
    have n2 := Nx.alloc (o := .tup us) s hr
    exact q _ _ _ _ _ rfl n2 (.tup upd_same ((h2.ex e).ex n2.up).dats)
/-- pairs of ints -/
def pairD (p : Int × Int) : Dat := .tup [.int p.1, .int p.2]
theorem pairs_dats {l : List (Int × Int)} {v : V} {B : Hp} (h : Py.is l v B) : Py.is (l.map pairD) v B := by
  obtain ⟨p, vs, rfl, h1, h2⟩ := h
  refine ⟨p, vs, rfl, h1, ?_⟩
  clear h1
  induction h2 with
  | nil => exact .nil
  | cons h _ ih =>
    obtain ⟨q, a, b, rfl, k1, k2, k3⟩ := h
    exact .cons (.tup k1 (.cons (dat_int k2) (.cons (dat_int k3) .nil))) ih
theorem Ty.datPairs {l : List (Int × Int)} (h : Ty G c te Γ (· = l)) : Ty G c te Γ (· = l.map pairD) := h.cast fun _ _ => pairs_dats
/-- dict(xs) of a list of pairs of ints -/
def rDictP (K : PySem.W.Frag) : List V → Hp → VK → Prop := fun xs H Q => ∃ (a : Addr) (ps : List Addr) (kvs : List (Key × V)), xs = [.ref a] ∧ SqL K H a (ps.map V.ref) ∧ Paired (fun p kv => SqT K H p [kV kv.1, kv.2]) ps kvs ∧
    ∀ p, H p = none → Q (.ref p) (upd H p (.dK (mergeK [] kvs)))
theorem ty_dictP {l : List (Int × Int)} (h : Ty G c ta Γ (· = l)) : Ty G (c + 0) (tCB (rDictP K) (tCons ta tNil)) Γ (· = Dat.dic) :=
  ty_cb (ta_cons h ta_nil) fun vs B al z B' H e s Q q => by
    obtain ⟨v, rfl, p, us, rfl, h1, h2⟩ := al.one
    have key : ∀ {l : List (Int × Int)} {us : List V}, Each B l us → ∃ (ps : List Addr) (kvs : List (Key × V)), us = ps.map V.ref ∧ Paired (fun p kv => SqT K H p [kV kv.1, kv.2]) ps kvs := by
      intro l us h
      induction h with
      | nil => exact ⟨[], [], rfl, .nil⟩
      | @cons pr _ _ _ h _ ih =>
        obtain ⟨ps, kvs, e1, e2⟩ := ih
        obtain ⟨q, a, b, rfl, k1, k2, k3⟩ := h
        refine ⟨q :: ps, (Sum.inl pr.1, b) :: kvs, by rw [e1] <;> rfl, .cons ?_ e2⟩
        have k2' : a = .int pr.1 := k2
        rw [k2'] at k1
        exact st_of (s.ex _ _ (e _ _ k1))
    obtain ⟨ps, kvs, e1, e2⟩ := key h2
    subst e1
    refine ⟨p, ps, kvs, rfl, sq_of (s.ex _ _ (e _ _ h1)), e2, fun r hr => ?_⟩
    have n2 := Nx.alloc (o := .dK (mergeK [] kvs)) s hr
    exact q _ _ _ _ _ rfl n2 (.dic upd_same)
theorem cutL_len (xs : List α) (lo hi : Option Int) : (cutL xs lo hi).length ≤ xs.length := by
  unfold cutL
  rw [List.length_take, List.length_drop]
  omega
theorem word_lt (w : Int) (d : Dat) : (d.whole && (decide (0 ≤ d.toI) && decide (d.toI < 2 ^ w.toNat))) = d.word w := by
  unfold Dat.word top
  rw [Dat.within_eq, decide_eq_decide.mpr (show d.toI < 2 ^ w.toNat ↔ d.toI ≤ 2 ^ w.toNat - 1 by omega)]
end
/-! xs[::e], e evaluates to -1 -/
def tRevS (K : PySem.W.Frag) (te ts : TE) : TE := fun σ H Q => te σ H fun x H1 => ts σ H1 fun y H2 => ∃ a xs, x = .ref a ∧ y = .int (-1) ∧ SqL K H2 a xs ∧ ∀ p, H2 p = none → Q (.ref p) (upd H2 p (.lst xs.reverse))
theorem ty_revS {K : PySem.W.Frag} {G : Option Addr} {c1 c2 : Nat} {te ts : TE} {Γ : Ctx} {α : Type} [Py α] {xs : List α} (h : Ty G c1 te Γ (· = xs)) (h2 : Ty G c2 ts Γ (· = (-1 : Int))) : Ty G (c1 + c2) (tRevS K te ts) Γ (· = xs.reverse) := fun z B σ H en s hz Q q => by
  refine h z B σ H en s (by omega) _ fun x v z1 B1 H1 ex n1 hv => ?_
  refine h2 z1 B1 σ H1 (en.up n1.up) n1.at_ (by have := n1.hi; omega) _ fun y w z2 B2 H2 ey n2 hw => ?_
  subst ex ey
  obtain ⟨a, us, rfl, e1, e2⟩ := hv
  refine ⟨a, us, rfl, hw, sq_of (n2.at_.ex _ _ (n2.up _ _ e1)), fun p hp => ?_⟩
  obtain ⟨n4, is4⟩ := new_list n2.at_ hp (e2.ex n2.up).rev
  exact q _ _ _ _ _ rfl (((n1.trans s n2).trans s n4).le (by omega)) is4
section
variable {X : Cx}
theorem pe_revS {e : Expr} {te : TE} {k k' : Nat} {p1 p2 p3 pos q1 : Pos} (he : PE X e te) {ts : TE} (hs : PE X (.BinOp (.Constant (.int 0) k p1) .Sub (.Constant (.int 1) k' q1) p2) ts) :
    PE X (.Subscript e (.Slice none none (some (.BinOp (.Constant (.int 0) k p1) .Sub (.Constant (.int 1) k' q1) p2)) p3) pos) (tRevS X.K te ts) := by
  refine ⟨fun pins s σ H Q I h => ?_⟩
  refine Subscript_ (thn (he.run pins s σ H _ I h) fun v sa hv => ?_)
  obtain ⟨x, Ha, Ia, rx, want⟩ := hv
  have none1 := po_none (X := X)
  refine wpAny_Slice (thn (none1.run pins sa σ Ha (fun o Hb => o = none ∧ Hb = Ha) Ia ⟨rfl, rfl⟩) fun vl sb hb => ?_)
  obtain ⟨l, Hb, Ib, pl, el, eb⟩ := hb
  subst el eb
  refine thn (none1.run pins sb σ Hb (fun o Hc => o = none ∧ Hc = Hb) Ib ⟨rfl, rfl⟩) fun vu sc hc => ?_
  obtain ⟨u, Hc, Ic, pu, eu, ec⟩ := hc
  subst eu ec
  refine thn ((po_some hs).run pins sc σ Hc (fun o Hd => o = some (-1) ∧ ∃ a xs, x = .ref a ∧ SqL X.K Hd a xs ∧ ∀ p, Hd p = none → Q (.ref p) (upd Hd p (.lst xs.reverse))) Ic ?_) fun vs sd hd => ?_
  · have want' : ts σ Hc fun y H2 => ∃ a xs, x = .ref a ∧ y = .int (-1) ∧ SqL X.K H2 a xs ∧ ∀ p, H2 p = none → Q (.ref p) (upd H2 p (.lst xs.reverse)) := want
    have e : (fun (y : V) (H2 : Hp) => ∃ a xs, x = .ref a ∧ y = .int (-1) ∧ SqL X.K H2 a xs ∧ ∀ p, H2 p = none → Q (.ref p) (upd H2 p (.lst xs.reverse))) =
        fun (y : V) (H2 : Hp) => ∃ i, y = .int i ∧ (some i = some (-1) ∧ ∃ a xs, x = .ref a ∧ SqL X.K H2 a xs ∧ ∀ p, H2 p = none → Q (.ref p) (upd H2 p (.lst xs.reverse))) := by
      funext y H2
      refine propext ⟨fun ⟨a, xs, h1, h2, h3, h4⟩ => ⟨-1, h2, rfl, a, xs, h1, h3, h4⟩, fun ⟨i, h1, h2, a, xs, h3, h4, h5⟩ => ?_⟩
      injection h2 with h2
      subst h2
      exact ⟨a, xs, h3, h1, h4, h5⟩
    show ts σ Hc fun (y : V) (H2 : Hp) => ∃ i, y = .int i ∧ (some i = some (-1) ∧ ∃ a xs, x = .ref a ∧ SqL X.K H2 a xs ∧ ∀ p, H2 p = none → Q (.ref p) (upd H2 p (.lst xs.reverse)))
    rw [← e]
    exact want'
  obtain ⟨o, Hd, Id, ps, eo, a, xs, ex, hx, go⟩ := hd
  subst eo ex
  cases rx
  generalize hsl : sd.heap.push { cls := .type "slice", data := .fields #[vl, vu, vs] } = hp'
  have Ie : Inv X pins σ Hd { sd with heap := hp' } := by
    subst hsl
    exact Id.kept (t' := sd.toks) fun b ob z => Heap.get?_push_of_some _ z
  obtain ⟨its, r, ht, hz⟩ := Ie.list hx
  have hlen := r.length
  subst hsl
  refine tail_any (ops := [.ref a, .ref sd.heap.objs.size]) ht.isList.typeIs (PySem.slot_list_getitem.lookup) ?_ (by with_unfolding_all rfl)
  refine wpAny_getItem_list_slice ht.isList (Heap.IsSliceOf.new _ vl vu vs) pl pu ps (by decide) ?_ (by simp only [List.size_toArray]; omega)
  rw [PySem.W.krv_pick]
  refine ⟨.ref _, _, Ie.laid (t' := sd.toks) (o := .lst xs.reverse) (fun b ob z => Heap.get?_push_of_some _ z) (Nat.le_refl _) ?_, rfl, go _ (Ie.hok.fresh (Nat.le_refl _))⟩
  exact ⟨by simp only [List.length_reverse]; exact hz, _, 0, r.reverse, Heap.get?_push_size _ rfl⟩
end
end AP

set_option maxHeartbeats 4000000
/-! repr of values of any kind; the law's def. -/
namespace AP
open PySem PySem.Spec PyProof.Rows L2 Evl
mutual
def Dat.py : Dat → PyData
  | .non => .none
  | .bl b => .bool b
  | .int n => .int n
  | .str s => .str s
  | .lst ds => .list (pyAll ds)
  | .tup ds => .tuple (pyAll ds)
  | .dic => .dict []
def pyAll : List Dat → List PyData
  | [] => []
  | d :: ds => d.py :: pyAll ds
end
/-- how deep, how heavy a value is whose repr is asked -/
structure Rp (k W : Nat) (d : Dat) : Prop where
  show_ : d.py.showable = true
  nodict : d.py.hasDict = false
  short : d.py.leavesShort 40 = true
  lay : d.py.canLay0 = true
  depth : d.py.depth ≤ k
  wt : d.py.weight ≤ W
theorem Rp.mono {k k' W W' : Nat} {d : Dat} (h : Rp k W d) (a : k ≤ k') (b : W ≤ W') : Rp k' W' d := ⟨h.show_, h.nodict, h.short, h.lay, Nat.le_trans h.depth a, Nat.le_trans h.wt b⟩
theorem rp_int {n : Int} (h : n.natAbs < 2 ^ 100) : Rp 0 100 (.int n) := by
  have l2 : n.natAbs.log2 < 100 := by
    by_cases h0 : n.natAbs = 0
    · rw [h0]
      decide
    · exact (Nat.log2_lt h0).mpr h
  refine ⟨?_, rfl, ?_, rfl, Nat.le_refl _, ?_⟩
  · show decide (n.natAbs.log2 < 1920) = true
    exact decide_eq_true (by omega)
  · show decide ((PyData.shown (.int n)).length ≤ 40) = true
    refine decide_eq_true ?_
    have e := int_text_length_le10 (k := 31) (by decide) (Nat.lt_of_lt_of_le h (by decide))
    show (Str.ofString (toString n)).length ≤ 40
    rw [PySem.ofString_length]
    omega
  · show (if n == 0 then 0 else n.natAbs.log2 + 1) ≤ 100
    split <;> omega
theorem rp_all {k W : Nat} : ∀ {ds : List Dat}, (∀ d ∈ ds, Rp k W d) → PyData.showableAll (pyAll ds) = true ∧ PyData.hasDictAll (pyAll ds) = false ∧ PyData.leavesShortAll 40 (pyAll ds) = true ∧ PyData.canLayAll0 (pyAll ds) = true ∧ PyData.depthAll (pyAll ds) ≤ k ∧ PyData.weightAll (pyAll ds) ≤ (W + 1) * ds.length
  | [], _ => ⟨rfl, rfl, rfl, rfl, Nat.zero_le _, Nat.zero_le _⟩
  | d :: ds, h => by
    obtain ⟨a, b, c, e, f, g⟩ := rp_all (ds := ds) fun x hx => h x (List.mem_cons_of_mem _ hx)
    have r := h d List.mem_cons_self
    refine ⟨?_, ?_, ?_, ?_, ?_, ?_⟩
    · show (d.py.showable && PyData.showableAll (pyAll ds)) = true
      rw [r.show_, a] <;> rfl
    · show (d.py.hasDict || PyData.hasDictAll (pyAll ds)) = false
      rw [r.nodict, b] <;> rfl
    · show (d.py.leavesShort 40 && PyData.leavesShortAll 40 (pyAll ds)) = true
      rw [r.short, c] <;> rfl
    · show (d.py.canLay0 && PyData.canLayAll0 (pyAll ds)) = true
      rw [r.lay, e] <;> rfl
    · show max d.py.depth (PyData.depthAll (pyAll ds)) ≤ k
      exact Nat.max_le.mpr ⟨r.depth, f⟩
    · show d.py.weight + 1 + PyData.weightAll (pyAll ds) ≤ (W + 1) * (ds.length + 1)
      have := r.wt
      rw [Nat.mul_add, Nat.mul_one]
      omega
theorem rp_lst {k W : Nat} {ds : List Dat} (h : ∀ d ∈ ds, Rp k W d) : Rp (k + 1) ((W + 1) * ds.length) (.lst ds) := by
  obtain ⟨a, b, c, e, f, g⟩ := rp_all h
  exact ⟨a, b, c, e, Nat.succ_le_succ f, g⟩
theorem rp_tup {k W : Nat} {ds : List Dat} (h : ∀ d ∈ ds, Rp k W d) : Rp (k + 1) ((W + 1) * ds.length) (.tup ds) := by
  obtain ⟨a, b, c, e, f, g⟩ := rp_all h
  exact ⟨a, b, c, e, Nat.succ_le_succ f, g⟩
mutual
theorem DatV.dp {K : PySem.W.Frag} {B H : Hp} (e : Ex B H) : ∀ {d : Dat} {v : V}, DatV B d v → d.py.hasDict = false → Dp K H v d.py
  | _, _, .non, _ => .non
  | _, _, .bl b, _ => .bl b
  | _, _, .int n, _ => .int n
  | _, _, .str s, _ => .str s
  | _, _, .lst h r, k => .lst (sq_of (e _ _ h)) (DatVs.dp e r k)
  | _, _, .tup h r, k => .tup (st_of (e _ _ h)) (DatVs.dp e r k)
  | _, _, .dic _, k => by cases k
theorem DatVs.dp {K : PySem.W.Frag} {B H : Hp} (e : Ex B H) : ∀ {d : List Dat} {v : List V}, DatVs B d v → PyData.hasDictAll (pyAll d) = false → DpAll K H v (pyAll d)
  | _, _, .nil, _ => .nil
  | d :: ds, _, .cons h r, k => by
    have k' : (d.py.hasDict || PyData.hasDictAll (pyAll ds)) = false := k
    rw [Bool.or_eq_false_iff] at k'
    exact .cons (DatV.dp e h k'.1) (DatVs.dp e r k'.2)
end
section
variable {K : PySem.W.Frag} {G : Option Addr} {c c1 c2 : Nat} {ta tb : TE} {Γ : AP.Ctx}
theorem ty_repr {d : Dat} {k W : Nat} (h : Ty G c ta Γ (· = d)) (r : Rp k W d) (hk : k ≤ 60) (hW : W ≤ 300000) : Ty G (c + 0) (tCB (rRepr K) (tCons ta tNil)) Γ (· = d.py.shown) :=
  ty_cb (ta_cons h ta_nil) fun vs B al z B' H e s Q q => by
    obtain ⟨v, rfl, hv⟩ := al.one
    refine ⟨v, d.py, rfl, DatV.dp (e.trans s.ex) hv r.nodict, r.show_, r.nodict, Nat.le_trans r.depth hk, ?_, q _ _ z B' H rfl (.refl s) rfl⟩
    have h1 := PyData.shown_le 40 (by decide) d.py r.short
    have h2 : (40 + 2) * d.py.weight ≤ 42 * 300000 := Nat.mul_le_mul (Nat.le_refl _) (Nat.le_trans r.wt hW)
    rw [sizeLine_eq]
    omega
/-- == of data -/
theorem ty_eqD {d e : Dat} {k W k' W' : Nat} (h : Ty G c1 ta Γ (· = d)) (h2 : Ty G c2 tb Γ (· = e)) (r : Rp k W d) (r' : Rp k' W' e) (hk : k ≤ 60) (hk' : k' ≤ 60) : Ty G (c1 + c2) (tOp (rEqD K) ta tb) Γ (· = PyData.eqv d.py e.py) :=
  ty_op h h2 fun x y v w B ex ey hv hw z B' H ee s Q q => by
    subst ex ey
    have sh : ∀ {k W : Nat} {d : Dat}, Rp k W d → k ≤ 60 → SeqAt.shaped d.py = true := fun {k W d} r hk => by
      have := r.depth
      unfold SeqAt.shaped
      rw [r.lay, decide_eq_true (by omega)] <;> rfl
    exact ⟨_, _, DatV.dp (ee.trans s.ex) hv r.nodict, DatV.dp (ee.trans s.ex) hw r'.nodict, sh r hk, sh r' hk', q _ _ z B' H rfl (.refl s) rfl⟩
theorem ty_neD {d e : Dat} {k W k' W' : Nat} (h : Ty G c1 ta Γ (· = d)) (h2 : Ty G c2 tb Γ (· = e)) (r : Rp k W d) (r' : Rp k' W' e) (hk : k ≤ 60) (hk' : k' ≤ 60) : Ty G (c1 + c2) (tOp (rNeD K) ta tb) Γ (· = !PyData.eqv d.py e.py) :=
  ty_op h h2 fun x y v w B ex ey hv hw z B' H ee s Q q => by
    subst ex ey
    have sh : ∀ {k W : Nat} {d : Dat}, Rp k W d → k ≤ 60 → SeqAt.shaped d.py = true := fun {k W d} r hk => by
      have := r.depth
      unfold SeqAt.shaped
      rw [r.lay, decide_eq_true (by omega)] <;> rfl
    exact ⟨_, _, DatV.dp (ee.trans s.ex) hv r.nodict, DatV.dp (ee.trans s.ex) hw r'.nodict, sh r hk, sh r' hk', q _ _ z B' H rfl (.refl s) rfl⟩
end
/-! a def that is called where no repr is under way -/
structure FoG (P : Program) (w : World) (K : PySem.W.Frag) (mg : Str → Option Value) (base : Heap) (x : Str) (k : Nat) (ps : List Str) (sp : Sp) : Prop where
  ex : ∃ (f : Addr) (fd : FuncData), mg x = some (.ref f) ∧ PySem.W.keepIn K (.ref f) = true ∧ Binds K fd ps [] ∧ FnG P w K mg base CX0 k f fd ps sp
theorem FoG.mk' {P : Program} {w : World} {K : PySem.W.Frag} {mg : Str → Option Value} {base : Heap} {x qual : Str} {st : Stmt} {f : Addr} {fd : FuncData} {ps : List Str} {k : Nat} {sp : Sp} (F : Df K x qual st [] f fd) (m : mg x = some (.ref f)) (G : FnG P w K mg base CX0 k f fd ps sp)
    (b : ∀ (kV doc pm : Value) (an : Option Addr) (cdv ct : Value) (us : List Value), us.length = ps.length → bindArgs (PySem.W.fnOf x qual (defArgs st) (defBody st) (defScope st) .none kV doc pm an cdv ct) ⟨us, []⟩ = pure (ps.zip us)) :
    FoG P w K mg base x k ps sp := ⟨f, fd, m, F.kp, FunD.bindsN F b, G⟩
section
variable {X : Cx} {k : Nat} {ps : List Str} {sp : Sp} {x : Str} {p pos : Pos} {e : Expr} {es : List Expr} {t : TA}
theorem pe_fog (F : FoG X.prog X.w X.K X.mg X.base x k ps sp) (ng : X.A.guards = some []) (hr : Room k X.A) (hg : Gl X x) (ha : PA X (e :: es) t) (hdb : (x == ("__debug__" : Str)) = false := by decide)
    (he : starEach (e :: es) X.env = (false, eval e X.env) :: starEach es X.env := by rfl)
    (hpl : (backTo pos (starEach es X.env)).any (·.1) = false := by rfl) :
    PE X (.Call (.Name x p) (e :: es) [] pos) (tCall sp [] (fun _ _ _ => False) t) := by
  obtain ⟨f, fd, m, kp, b, G⟩ := F.ex
  exact pe_callG G ng hr hg m kp b .nil pass0 ha hdb he hpl
end
/-- the law's script in a slot -/
def ScP (K : PySem.W.Frag) (a : Addr) (ns : List Int) : VP := fun v B => v = .ref a ∧ SqL K B a (ns.map V.int)
theorem ScP.stays {K : PySem.W.Frag} {a : Addr} {ns : List Int} : Stays (ScP K a ns) := fun _ _ _ e h => ⟨h.1, ex_l e h.2⟩
/-- right(generator(script, i)) -/
theorem ty_rightgen {K : PySem.W.Frag} {Γ : AP.Ctx} {C : Con Addr Bool} {E E' : XK} {a : Addr} {ns : List Int} {k l : Nat} {i : Nat} (hC : ∀ g, C.args g = [Py.is (GenR.mk g)]) (hp : ∀ g, C.pre g (some g)) (hc : ∀ g, C.c g ≤ 2 ^ 49) (hq : ∀ g b, C.post g b → b = true)
    (h1 : Γ[k]? = some (some (ScP K a ns))) (h2 : Γ[l]? = some (some (Py.is ((i : Nat) : Int)))) (hi : i ≤ 1000) :
    Ty none 0 (tCall C.sp [] E (tCons (tCall (spGenerator K) [] E' (tCons (tVar k) (tCons (tVar l) tNil))) tNil)) Γ (· = true) := fun z B σ H en s hz Q q => by
  obtain ⟨v, e1, _, ev, hs⟩ := en.all k _ h1
  subst ev
  obtain ⟨u, e2, _, hu⟩ := en.all l _ h2
  cases (show u = .int (i : Int) from hu)
  refine ⟨_, e1, _, e2, ?_⟩
  show spGenerator K ([.ref a, .int (i : Int)] ++ []) H (fun x H1 => C.sp ([x] ++ []) H1 Q E) E'
  refine ⟨a, ns, i, rfl, ex_l s.ex hs, hi, fun p H1 np ex1 gen => ?_⟩
  obtain ⟨x, y, z1, g1, g2, ⟨g3, g4⟩, g5, g6⟩ := gen
  show C.sp ([.ref p] ++ []) H1 Q E
  have nB : B p = none := fresh_back s.ex np
  have at1 : At (some p) z1 B H1 := ⟨s.ex.trans ex1, fun g eg => by cases eg; exact ⟨nB, x, y, g1, g2, g3, g4, g5⟩⟩
  refine ⟨p, some p, z1, B, by rw [hC]; exact .cons (Py.stays _) rfl .nil, hp p, at1, by have := hc p; omega, fun b w z' B' H' hb nx is => ?_⟩
  refine q b w z B' H' (hq p b hb) ⟨⟨nx.at_.ex, fun g eg => by cases eg⟩, nx.up, fun b o hb => ?_, Int.le_refl _, by omega, fun b o _ hb => ?_⟩ is
  · rcases nx.new b o hb with h | h
    · exact .inl h
    · exact .inr (fresh_back ex1 h)
  · exact nx.keep b o (fun z => by cases z; rw [np] at hb; cases hb) (ex1 b o hb)
end AP

set_option maxHeartbeats 4000000
/-! list(range(..)); the law's promise. -/
namespace AP
open PySem PySem.Spec PyProof.Rows L2 Evl
def upto (n : Int) : List Int := (List.range n.toNat).map fun i : Nat => (0 : Int) + (i : Int)
theorem ty_listRg {G : Option Addr} {c : Nat} {te : TE} {Γ : AP.Ctx} {n : Int} (h : Ty G c te Γ (· = n)) (h0 : 0 ≤ n) (h1 : n ≤ 1000000) : Ty G c (tLstRg (tRg1 te)) Γ (· = upto n) := fun z B σ H en s hz Q q =>
  h z B σ H en s hz _ fun x v z1 B1 H1 ex n1 hv => ⟨x, hv, RgOk.of_le (by decide) (by omega) (by decide) (by omega), fun p hp => by
    subst ex
    have e : rgV 0 x = (upto x).map V.int := by
      unfold rgV upto
      rw [List.map_map, Int.sub_zero]
      rfl
    rw [e]
    obtain ⟨n2, is2⟩ := new_list n1.at_ hp (Each.of_ints (upto x))
    exact q _ _ _ _ _ rfl ((n1.trans s n2).le (by omega)) is2⟩
/-- the law's def: True, whatever the script -/
def spLaw (K : PySem.W.Frag) : Sp := fun vs H Q _ => ∃ (a : Addr) (ns : List Int), vs = [.ref a] ∧ SqL K H a (ns.map V.int) ∧ ∀ H', Q (.bl true) H'
theorem at_none {H : Hp} {z : Int} : At none z H H := ⟨Ex.refl H, fun _ e => by cases e⟩
theorem slo_law {K : PySem.W.Frag} {H : Hp} {a : Addr} {ns : List Int} {N : List Str} (h : SqL K H a (ns.map V.int)) : Slo H (L2.start N [.ref a]) (ctx0 N.length [ScP K a ns]) := Slo.start (.cons ScP.stays ⟨rfl, h⟩ .nil)
end AP

set_option maxHeartbeats 4000000
/-! Dicts of ints by ints: made, walked, asked for the least value. -/
namespace AP
open PySem PySem.Spec PyProof.Rows L2 Evl
structure DictI where
  kvs : List (Int × Int)
def kvI (p : Int × Int) : Key × V := (Sum.inl p.1, V.int p.2)
instance : Py DictI := ⟨fun d v B => ∃ p, v = .ref p ∧ B p = some (.dK (d.kvs.map kvI)), fun _ _ _ _ e ⟨p, h1, h2⟩ => ⟨p, h1, e _ _ h2⟩⟩
section
variable {K : PySem.W.Frag} {G : Option Addr} {c c1 c2 ct ck cv : Nat} {te td tk tv : TE} {tt : TT} {Γ : AP.Ctx} {α : Type} [Py α] {B B' H : Hp}
/-- while d: .. -/
theorem tt_dict {d : DictI} (h : Ty G c td Γ (· = d)) : TyT G c (fun σ H Q => td σ H fun x H' => ∃ k, TruV K x H' k ∧ Q k H') Γ (· = !d.kvs.isEmpty) := fun z B σ H en s hz Q q =>
  h z B σ H en s hz _ fun x v z' B' H' ex n hv => by
    subst ex
    obtain ⟨p, rfl, h1⟩ := hv
    refine ⟨!x.kvs.isEmpty, .inr (.inr ⟨_, n.at_.ex _ _ h1, ?_⟩), q _ z' B' H' rfl n⟩
    cases x.kvs <;> rfl
theorem ty_minVals {d : DictI} (h : Ty G c td Γ (· = d)) (h0 : d.kvs ≠ []) : Ty G c (tMinVals td) Γ (fun m => m ∈ d.kvs.map (·.2) ∧ ∀ y ∈ d.kvs.map (·.2), m ≤ y) := fun z B σ H en s hz Q q =>
  h z B σ H en s hz _ fun x v z' B' H' ex n hv => by
    subst ex
    obtain ⟨p, rfl, h1⟩ := hv
    exact ⟨p, _, x.kvs.map (·.2), rfl, n.at_.ex _ _ h1, by rw [List.map_map, List.map_map]; rfl, fun e => h0 (List.map_eq_nil_iff.mp e), fun m hm hle => q m _ z' B' H' ⟨hm, hle⟩ n rfl⟩
/-! a dict that is locked while it is walked -/
def FrzP (d : Addr) (o : Obj) (D : DictI) : VP := fun v B => v = .ref d ∧ B d = some (.frz o (.dK (D.kvs.map kvI)))
theorem FrzP.stays {d : Addr} {o : Obj} {D : DictI} : Stays (FrzP d o D) := fun _ _ _ e h => ⟨h.1, e _ _ h.2⟩
/-- a thing told whatever the heap -/
def Flat (P : VP) : Prop := ∀ v B B', P v B → P v B'
theorem flat_int (n : Int) : Flat (Py.is n) := fun _ _ _ h => h
theorem ti_items {d : Addr} {o : Obj} {D : DictI} {i j k : Nat} (h : Γ[i]? = some (some (FrzP d o D))) :
    TyI G 0 (iItems (tVar i)) (gTup K 2 (gCons (gName j) (gCons (gName k) gNil))) Γ [j, k] (· = D.kvs.length) (fun t Γ => (Γ.set j (some (itm (D.kvs.map (·.1)) t))).set k (some (itm (D.kvs.map (·.2)) t))) := fun z B σ H en s hz R r => by
  obtain ⟨v, e1, _, rfl, hd⟩ := en.all i _ h
  refine ⟨_, e1, d, o, _, rfl, s.ex _ _ hd, r _ _ z B H rfl (.refl s) (src_two itm_st itm_st (fun H' e => ⟨e _ _ hd, by rw [List.length_map]; exact Nat.le_refl _⟩) (fun t ht H' e => ⟨e _ _ hd, by rw [List.length_map]; exact ht⟩) fun t ht x H1 H2 e y => ?_)⟩
  obtain ⟨T, key, val, g1, g2, g3, g4⟩ := y
  rw [List.getElem?_map, List.getElem?_eq_getElem ht] at g1
  have g1 : kvI D.kvs[t] = (key, val) := Option.some.inj g1
  injection g1 with a b
  subst a b
  exact ⟨T, _, _, g2, g3, g4, ⟨_, by rw [List.getElem?_map, List.getElem?_eq_getElem ht] <;> rfl, rfl⟩, ⟨_, by rw [List.getElem?_map, List.getElem?_eq_getElem ht] <;> rfl, rfl⟩⟩
/-- under the lock only what is flat is still told -/
theorem ty_lock {D : DictI} {i : Nat} {Γf : AP.Ctx} {A : α → Prop} (fl : ∀ (x : α) (v : V) (B : Hp) (d : Addr) (o : Obj) (u w : HO), B d = some (.frz o u) → Py.is x v B → Py.is x v (upd B d w))
    (hi : Γ[i]? = some (some (Py.is D))) (len : Γf.length = Γ.length) (sub : ∀ (j : Nat) (P : VP), Γf[j]? = some (some P) → Γ[j]? = some (some P) ∧ Flat P)
    (h : ∀ d o, Ty G c te (Γf.set i (some (FrzP d o D))) A) : Ty G c (tLockE te) Γ A := fun z B σ H en s hz Q q => by
  obtain ⟨v, e1, _, d, ev, hd⟩ := en.all i _ hi
  subst ev
  have hH := s.ex _ _ hd
  have ng : ∀ g, G = some g → g ≠ d := fun g hg e => by
    obtain ⟨_, x, y, q1, _⟩ := s.gen g hg
    rw [e, hH] at q1
    cases q1
  refine ⟨d, _, hH, trivial, fun od => ?_⟩
  have en1 : Slo (upd B d (.frz od (.dK (D.kvs.map kvI)))) σ (Γf.set i (some (FrzP d od D))) := by
    refine ⟨by rw [List.length_set, len]; exact en.len, fun j P hj => ?_⟩
    by_cases e : i = j
    · subst e
      by_cases lt : i < Γf.length
      · rw [List.getElem?_set_self lt] at hj
        cases hj
        exact ⟨_, e1, FrzP.stays, rfl, upd_same⟩
      · rw [List.getElem?_eq_none (by rw [List.length_set]; omega)] at hj
        cases hj
    · rw [List.getElem?_set_ne e] at hj
      obtain ⟨h1, h2⟩ := sub j P hj
      obtain ⟨w, h3, h4, h5⟩ := en.all j P h1
      exact ⟨w, h3, h4, h2 _ _ _ h5⟩
  have at1 : At G z (upd B d (.frz od (.dK (D.kvs.map kvI)))) (upd H d (.frz od (.dK (D.kvs.map kvI)))) := by
    refine ⟨fun a u ha => ?_, fun g hg => ?_⟩
    · by_cases e : a = d
      · subst e
        rw [upd_same] at ha ⊢
        exact ha
      · rw [upd_ne e] at ha ⊢
        exact s.ex a u ha
    · obtain ⟨h1, x, y, q1, q2⟩ := s.gen g hg
      exact ⟨by rw [upd_ne (ng g hg)]; exact h1, x, y, by rw [upd_ne (ng g hg)]; exact q1, q2⟩
  refine h d od z _ σ _ en1 at1 hz _ fun x v z' B' H' ax n hv => ?_
  have hB' : B' d = some (.frz od (.dK (D.kvs.map kvI))) := n.up _ _ upd_same
  refine ⟨n.at_.ex _ _ hB', q x v z' (upd B' d (.dK (D.kvs.map kvI))) (upd H' d (.dK (D.kvs.map kvI))) ax ⟨⟨fun a u ha => ?_, fun g hg => ?_⟩, fun a u ha => ?_, fun a u ha => ?_, n.lo, n.hi, fun a u hg ha => ?_⟩ (fl x v B' d od _ _ hB' hv)⟩
  · by_cases e : a = d
    · subst e
      rw [upd_same] at ha ⊢
      exact ha
    · rw [upd_ne e] at ha ⊢
      exact n.at_.ex a u ha
  · obtain ⟨h1, x, y, q1, q2⟩ := n.at_.gen g hg
    exact ⟨by rw [upd_ne (ng g hg)]; exact h1, x, y, by rw [upd_ne (ng g hg)]; exact q1, q2⟩
  · by_cases e : a = d
    · subst e
      rw [hd] at ha
      cases ha
      exact upd_same
    · rw [upd_ne e]
      exact n.up a u (by rw [upd_ne e]; exact ha)
  · by_cases e : a = d
    · subst e
      rw [upd_same] at ha
      cases ha
      exact .inl hd
    · rw [upd_ne e] at ha
      rcases n.new a u ha with h | h
      · rw [upd_ne e] at h
        exact .inl h
      · rw [upd_ne e] at h
        exact .inr h
  · by_cases e : a = d
    · subst e
      rw [hH] at ha
      cases ha
      exact upd_same
    · rw [upd_ne e]
      exact n.keep a u hg (by rw [upd_ne e]; exact ha)
theorem fl_ints : ∀ (x : List Int) (v : V) (B : Hp) (d : Addr) (o : Obj) (u w : HO), B d = some (.frz o u) → Py.is x v B → Py.is x v (upd B d w) := fun x v B d o u w hd h => by
  obtain ⟨p, rfl, h1⟩ := Py.ints h
  refine Py.of_ints ?_
  rw [upd_ne fun e => by rw [e, hd] at h1; cases h1]
  exact h1
theorem fl_dict : ∀ (x : DictI) (v : V) (B : Hp) (d : Addr) (o : Obj) (u w : HO), B d = some (.frz o u) → Py.is x v B → Py.is x v (upd B d w) := fun x v B d o u w hd h => by
  obtain ⟨p, rfl, h1⟩ := h
  refine ⟨p, rfl, ?_⟩
  rw [upd_ne fun e => by rw [e, hd] at h1; cases h1]
  exact h1
/-! a dict comprehension over anything: the turns' keys are all unlike -/
theorem put_new {kvs : List (Int × Int)} {k c : Int} (h : k ∉ kvs.map (·.1)) : putK (kvs.map kvI) (Sum.inl k) (V.int c) = (kvs ++ [(k, c)]).map kvI := by
  unfold putK
  rw [if_neg, List.map_append] <;> try rfl
  intro e
  obtain ⟨x, hx, e⟩ := List.any_eq_true.mp e
  obtain ⟨y, hy, rfl⟩ := List.mem_map.mp hx
  have e : (Sum.inl y.1 : Key) = Sum.inl k := of_decide_eq_true e
  injection e with e
  exact h (List.mem_map.mpr ⟨y, hy, e⟩)
def keepsD (p : Nat → Bool) (kf vf : Nat → Int) (m : Nat) : List (Int × Int) := ((List.range m).filter p).map fun i => (kf i, vf i)
theorem keeps_yes {p : Nat → Bool} {kf vf : Nat → Int} {m : Nat} (h : p m = true) : keepsD p kf vf (m + 1) = keepsD p kf vf m ++ [(kf m, vf m)] := by
  unfold keepsD
  rw [List.range_succ, List.filter_append, List.map_append, List.filter_cons, if_pos h] <;> rfl
theorem keeps_no {p : Nat → Bool} {kf vf : Nat → Int} {m : Nat} (h : p m = false) : keepsD p kf vf (m + 1) = keepsD p kf vf m := by
  unfold keepsD
  rw [List.range_succ, List.filter_append, List.map_append, List.filter_cons, if_neg (by rw [h]; decide)]
  show _ ++ [] = _
  rw [List.append_nil]
theorem keeps_len (p : Nat → Bool) (kf vf : Nat → Int) (m : Nat) : (keepsD p kf vf m).length ≤ m := by
  unfold keepsD
  rw [List.length_map]
  exact Nat.le_trans (List.length_filter_le _ _) (by rw [List.length_range]; exact Nat.le_refl _)
theorem ty_dc {wi : TI} {g : TG} {js vs : List Nat} {m : Nat} {F : Nat → AP.Ctx → AP.Ctx} {p : Nat → Bool} {kf vf : Nat → Int} (h : TyI G c wi g Γ js (· = m) F) (hm : m ≤ 40000) (hj : ∀ j ∈ js, j ∈ vs)
    (ht : ∀ i, i < m → TyT G 0 tt (F i (wipeC Γ vs)) (· = p i)) (hk : ∀ i, i < m → p i = true → Ty G 0 tk (F i (wipeC Γ vs)) (· = kf i)) (hv : ∀ i, i < m → p i = true → Ty G 0 tv (F i (wipeC Γ vs)) (· = vf i))
    (nd : ∀ i, i < m → p i = true → kf i ∉ (keepsD p kf vf i).map (·.1)) :
    Ty G c (tDc wi g tt tk tv vs) Γ (· = DictI.mk (keepsD p kf vf m)) := fun z B σ H en s hz Q q => by
  refine h z B σ H en s hz _ fun J m' z1 B1 H1 em n1 src => fun D hD => ?_
  subst em
  have nDH : H D = none := n1.gone s hD
  have gD : G ≠ some D := fun hg => by
    obtain ⟨_, _, _, q1, _⟩ := s.gen D hg
    rw [q1] at nDH
    cases nDH
  have nB1 : B1 D = none := by
    cases e : B1 D with
    | none => rfl
    | some o => rw [n1.at_.ex _ _ e] at hD; cases hD
  refine ⟨fun i k H' => k + i = m' ∧ ∃ z' B', H' D = some (.dK ((keepsD p kf vf i).map kvI)) ∧ B' D = none ∧ Ex B1 B' ∧ Nx G c z B H z' B' H', ⟨m', by omega, z1, B1, upd_same, nB1, Ex.refl _, (n1.trans s (Nx.more n1.at_ (Ex.new hD))).le (by omega)⟩, ?_⟩
  rintro i k H2 ⟨e, z2, B2, hD2, nD, x2, n2⟩
  rcases Nat.lt_or_ge i m' with lt | ge
  · refine .inr ⟨src.go i lt H2 (x2.trans n2.at_.ex), fun H' => ∃ z' B', H' D = some (.dK ((keepsD p kf vf (i + 1)).map kvI)) ∧ B' D = none ∧ Ex B1 B' ∧ Nx G c z B H z' B' H', fun H' p => ⟨k - 1, by omega, by omega, p⟩, fun x H3 y => ?_⟩
    obtain ⟨e3, fin⟩ := src.yld i lt x H2 H3 (x2.trans n2.at_.ex) y
    have enB : Slo B2 (L2.wipe σ vs) (wipeC Γ vs) := (en.up n2.up).wipe vs
    refine fin (L2.wipe σ vs) (wipeC Γ vs) B2 enB x2 n2.at_.ex _ fun σ' en3 hw => ⟨?_, ?_⟩
    · have id2 : ∀ (us : List Nat) (τ : L2.St), L2.wipe (L2.wipe τ us) us = L2.wipe τ us := by
        intro us
        induction us with
        | nil => intro τ; rfl
        | cons u us ih =>
          intro τ
          show (L2.wipe ((L2.wipe τ us).set u none) us).set u none = (L2.wipe τ us).set u none
          by_cases hu : u ∈ us
          · rw [wipe_set _ u _ us hu, ih]
          · have com : ∀ (ws : List Nat) (τ : L2.St), (L2.wipe (τ.set u none) ws).set u none = (L2.wipe τ ws).set u none := by
              intro ws
              induction ws with
              | nil => intro τ; show (τ.set u none).set u none = _; rw [List.set_set]; rfl
              | cons w ws ih2 =>
                intro τ
                show ((L2.wipe (τ.set u none) ws).set w none).set u none = ((L2.wipe τ ws).set w none).set u none
                by_cases k : w = u
                · subst k
                  rw [List.set_set, List.set_set]
                  exact ih2 τ
                · rw [List.set_comm _ _ k, List.set_comm _ _ k, ih2]
            rw [com us, ih]
      rw [hw vs hj, id2]
    have n3 : Nx G c z B H z2 B2 H3 := (n2.trans s (Nx.more n2.at_ e3)).le (by omega)
    have keepD : ∀ {c' : Nat} {za zb : Int} {Ba Bb Ha Hb : Hp} {o : HO}, Nx G c' za Ba Ha zb Bb Hb → Ha D = some o → Ba D = none → Hb D = some o ∧ Bb D = none := fun {c' za zb Ba Bb Ha Hb o} nx hd hb => by
      refine ⟨nx.keep D _ gD hd, ?_⟩
      cases e : Bb D with
      | none => rfl
      | some o =>
        rcases nx.new D o e with h | h
        · rw [hb] at h; cases h
        · rw [hd] at h; cases h
    refine ht i lt z2 B2 σ' H3 en3 n3.at_ (by have := n3.hi; omega) _ fun b z4 B4 H4 tb n4 => ?_
    subst tb
    obtain ⟨hD4, nD4⟩ := keepD n4 (e3 D _ hD2) nD
    cases hp : p i with
    | false =>
      show ∃ z' B', _
      refine ⟨z4, B4, ?_, nD4, x2.trans n4.up, (n3.trans s n4).le (by omega)⟩
      rw [keeps_no hp]
      exact hD4
    | true =>
      show tk σ' H4 fun y H5 => tv σ' H5 _
      refine hk i lt hp z4 B4 σ' H4 (en3.up n4.up) n4.at_ (by have := n3.hi; have := n4.hi; omega) _ fun y v z5 B5 H5 ay n5 hv5 => ?_
      obtain ⟨hD5, nD5⟩ := keepD n5 hD4 nD4
      refine hv i lt hp z5 B5 σ' H5 ((en3.up n4.up).up n5.up) n5.at_ (by have := n3.hi; have := n4.hi; have := n5.hi; omega) _ fun y' v' z6 B6 H6 ay' n6 hv6 => ?_
      obtain ⟨hD6, nD6⟩ := keepD n6 hD5 nD5
      cases (show v = .int y from hv5)
      cases (show v' = .int y' from hv6)
      subst ay ay'
      have small : ((keepsD p kf vf i).map kvI).length < sizeLine := by
        have := keeps_len p kf vf i
        exact sz_lt (by rw [List.length_map]; omega)
      refine ⟨_, Sum.inl (kf i), rfl, hD6, small, z6, B6, ?_, nD6, ((x2.trans n4.up).trans n5.up).trans n6.up, ?_⟩
      · rw [put_new (nd i lt hp), ← keeps_yes hp]
        exact upd_same
      · have nn := (((n3.trans s n4).trans s n5).trans s n6).le (c2 := c) (by omega)
        refine ⟨⟨fun a u ha => ?_, fun g' hg => ?_⟩, nn.up, nn.new, nn.lo, nn.hi, fun a u hg ha => ?_⟩
        · rw [upd_ne (ne_of_none ha nD6)]
          exact nn.at_.ex a u ha
        · obtain ⟨q1, x, y, q2, q3⟩ := nn.at_.gen g' hg
          exact ⟨q1, x, y, by rw [upd_ne (fun z => gD (by rw [hg, z]))]; exact q2, q3⟩
        · rw [upd_ne (ne_of_none ha nDH)]
          exact nn.keep a u hg ha
  · have eim : i = m' := by omega
    subst eim
    refine .inl ⟨src.stop H2 (x2.trans n2.at_.ex), ?_⟩
    refine q _ (.ref D) z2 (upd B2 D (.dK ((keepsD p kf vf i).map kvI))) H2 rfl ⟨⟨fun a u ha => ?_, fun g' hg => ?_⟩, n2.up.trans (Ex.new nD), fun a u ha => ?_, n2.lo, n2.hi, n2.keep⟩ ⟨D, rfl, upd_same⟩
    · by_cases e : a = D
      · subst e
        rw [upd_same] at ha
        rw [hD2, ha]
      · rw [upd_ne e] at ha
        exact n2.at_.ex a u ha
    · obtain ⟨q1, q2⟩ := n2.at_.gen g' hg
      exact ⟨by rw [upd_ne (fun z => gD (by rw [hg, z]))]; exact q1, q2⟩
    · by_cases e : a = D
      · subst e
        exact .inr nDH
      · rw [upd_ne e] at ha
        exact n2.new a u ha
end
end AP

set_option maxHeartbeats 4000000
/-! Lists that grow by append; the twos of a number. -/
namespace AP
open PySem PySem.Spec PyProof.Rows L2 Evl
/-- a list that may grow: nothing is told of what it holds -/
def RefP (l : Addr) : VP := fun v _ => v = .ref l
theorem RefP.stays {l : Addr} : Stays (RefP l) := fun _ _ _ _ h => h
section
variable {K : PySem.W.Frag} {G : Option Addr} {c c0 c1 c2 : Nat} {te ta tb : TE} {Γ : AP.Ctx} {α : Type} [Py α] {A : α → Prop} {B B' H B0 H0 : Hp} {v w : V} {σ : L2.St} {z z0 : Int} {D : Ends} {tz : TS}
theorem Slo.renew (en : Slo B σ Γ) {k : Nat} {l : Addr} {P : VP} (h : Γ[k]? = some (some (RefP l))) (st : Stays P) (p : P (.ref l) B) : Slo B σ (Γ.set k (some P)) := by
  obtain ⟨v, h1, _, h2⟩ := en.all k _ h
  cases (show v = .ref l from h2)
  have e := en.set (i := k) st p
  have lt : k < σ.length := (List.getElem?_eq_some_iff.mp h1).1
  have : σ.set k (some (.ref l)) = σ := by
    apply List.ext_getElem?
    intro m
    by_cases hm : k = m
    · subst hm
      rw [List.getElem?_set_self lt, h1]
    · rw [List.getElem?_set_ne hm]
  rw [this] at e
  exact e
theorem q_newS (s0 : At G z0 B0 H0) (n : Nx G c0 z0 B0 H0 z B H) (en : Slo B σ Γ) {i : Nat}
    (k : ∀ l σ', H l = none → Nx G c0 z0 B0 H0 z B (upd H l (.lst [])) → Slo B σ' (Γ.set i (some (RefP l))) → B l = none → H0 l = none → tz D σ' (upd H l (.lst []))) : tSeq (tAsg (tLst tNil) (gName i)) tz D σ H := by
  refine ⟨by show 0 ≤ sizeLine; exact Nat.zero_le _, fun l hl => ?_⟩
  refine k l _ hl ((n.trans s0 (Nx.more n.at_ (Ex.new hl))).le (by omega)) (en.set RefP.stays rfl) ?_ (n.gone s0 hl)
  cases e : B l with
  | none => rfl
  | some o => rw [n.at_.ex _ _ e] at hl; cases hl
theorem q_appS (s0 : At G z0 B0 H0) (n : Nx G c0 z0 B0 H0 z B H) (en : Slo B σ Γ) {k : Nat} {l : Addr} {us : List V} (hk : Γ[k]? = some (some (RefP l))) (hl : H l = some (.lst us)) (nl : B l = none) (n0 : H0 l = none) (small : us.length < 100000)
    (h : Ty G c te Γ A) (hz : z0 + (c0 + c) ≤ 2 ^ 50)
    (kk : ∀ x v z' B' H', A x → Py.is x v B' → Ex B B' → Nx G (c0 + c) z0 B0 H0 z' B' H' → Slo B' σ Γ → H' l = some (.lst (us ++ [v])) → B' l = none → (∀ a o, G ≠ some a → a ≠ l → H a = some o → H' a = some o) → (∀ a o, B' a = some o → B a = some o ∨ H a = none) → tz D σ H') :
    tSeq (tDrop (tBM K "list" rAppend (tVar k) (tCons te tNil))) tz D σ H := by
  obtain ⟨u, e1, _, eu⟩ := en.all k _ hk
  cases (show u = .ref l from eu)
  have gl : G ≠ some l := fun hg => by
    obtain ⟨_, _, _, q1, _⟩ := s0.gen l hg
    rw [q1] at n0
    cases n0
  refine ⟨.ref l, e1, Or.inl ⟨rfl, us, sq_of hl⟩, ?_⟩
  refine h z B σ H en n.at_ (by have := n.hi; omega) _ fun x v z1 B1 H1 ax n1 hv => ?_
  have hl1 := n1.keep l _ gl hl
  have nl1 : B1 l = none := by
    cases e : B1 l with
    | none => rfl
    | some o =>
      rcases n1.new l o e with h | h
      · rw [nl] at h; cases h
      · rw [hl] at h; cases h
  have nn := n.trans s0 n1
  refine ⟨l, us, v, rfl, rfl, hl1, sz_lt small, ?_⟩
  refine kk x v z1 B1 _ ax hv n1.up ⟨⟨fun a o ha => ?_, fun g hg => ?_⟩, nn.up, nn.new, nn.lo, nn.hi, fun a o hg ha => ?_⟩ (en.up n1.up) upd_same nl1 (fun a o hg hne ha => ?_) n1.new
  · rw [upd_ne (ne_of_none ha nl1)]
    exact nn.at_.ex a o ha
  · obtain ⟨q1, x, y, q2, q3⟩ := nn.at_.gen g hg
    exact ⟨q1, x, y, by rw [upd_ne (fun z => gl (by rw [hg, z]))]; exact q2, q3⟩
  · rw [upd_ne (ne_of_none ha n0)]
    exact nn.keep a o hg ha
  · rw [upd_ne hne]
    exact n1.keep a o hg ha
theorem Nx.freeze {c : Nat} {l : Addr} {o : HO} (s0 : At G z0 B0 H0) (n : Nx G c z0 B0 H0 z B H) (hl : H l = some o) (nl : B l = none) (n0 : H0 l = none) : Nx G c z0 B0 H0 z (upd B l o) H ∧ Ex B (upd B l o) := by
  have gl : G ≠ some l := fun hg => by
    obtain ⟨_, _, _, q1, _⟩ := s0.gen l hg
    rw [q1] at n0
    cases n0
  refine ⟨⟨⟨fun a u ha => ?_, fun g hg => ?_⟩, n.up.trans (Ex.new nl), fun a u ha => ?_, n.lo, n.hi, n.keep⟩, Ex.new nl⟩
  · by_cases e : a = l
    · subst e
      rw [upd_same] at ha
      rw [hl, ha]
    · rw [upd_ne e] at ha
      exact n.at_.ex a u ha
  · obtain ⟨q1, q2⟩ := n.at_.gen g hg
    exact ⟨by rw [upd_ne (fun z => gl (by rw [hg, z]))]; exact q1, q2⟩
  · by_cases e : a = l
    · subst e
      exact .inr n0
    · rw [upd_ne e] at ha
      exact n.new a u ha
end
/-! ### the twos of a number -/
def twF : Nat → Nat → Nat
  | 0, _ => 0
  | f + 1, n => if n ≠ 0 ∧ n % 2 = 0 then twF f (n / 2) + 1 else 0
def twosN (n : Nat) : Nat := twF (n.log2 + 1) n
theorem twosN_step (n : Nat) : twosN n = if n ≠ 0 ∧ n % 2 = 0 then twosN (n / 2) + 1 else 0 := by
  unfold twosN
  rw [twF]
  by_cases h : n ≠ 0 ∧ n % 2 = 0
  · rw [if_pos h, if_pos h]
    have e : n.log2 = (n / 2).log2 + 1 := by
      have h2 : n ≥ 2 := by omega
      rw [Nat.log2_def, if_pos h2]
    rw [e]
  · rw [if_neg h, if_neg h]
theorem twosN_even {n : Nat} (h0 : n ≠ 0) (h : n % 2 = 0) : twosN n = twosN (n / 2) + 1 := by
  rw [twosN_step, if_pos ⟨h0, h⟩]
theorem twosN_odd {n : Nat} (h : n % 2 = 1) : twosN n = 0 := by
  rw [twosN_step, if_neg fun q => by omega]
theorem twosN_zero : twosN 0 = 0 := by rw [twosN_step, if_neg fun q => q.1 rfl]
def twos (n : Int) : Int := (twosN n.natAbs : Nat)
theorem twos_neg (n : Int) : twos (-n) = twos n := by unfold twos; rw [Int.natAbs_neg]
theorem twos_odd {n : Int} (h : n % 2 = 1) : twos n = 0 := by
  unfold twos
  rw [twosN_odd (by omega)] <;> rfl
theorem twos_even {n : Int} (h0 : n ≠ 0) (h : n % 2 = 0) : twos n = twos (n / 2) + 1 := by
  unfold twos
  rw [twosN_even (by omega) (by omega), show (n / 2).natAbs = n.natAbs / 2 by omega]
  omega
theorem twos_nonneg (n : Int) : 0 ≤ twos n := Int.natCast_nonneg _
theorem low_bit (n : Nat) : n ≠ 0 → n - (n &&& (n - 1)) = 2 ^ twosN n := by
  induction n using Nat.strongRecOn with
  | ind n ih =>
    intro h0
    have d1 : (n &&& (n - 1)) / 2 = n / 2 &&& (n - 1) / 2 := Nat.and_div_two ..
    have m1 : (n &&& (n - 1)) % 2 = (n % 2) &&& ((n - 1) % 2) := by
      rw [← Nat.and_one_is_mod, ← Nat.and_one_is_mod, ← Nat.and_one_is_mod]
      apply Nat.eq_of_testBit_eq
      intro i
      simp only [Nat.testBit_and]
      cases Nat.testBit n i <;> cases Nat.testBit (n - 1) i <;> cases Nat.testBit 1 i <;> rfl
    rcases Nat.mod_two_eq_zero_or_one n with e | e
    · have e2 : (n - 1) % 2 = 1 := by omega
      rw [e, e2] at m1
      have m1 : (n &&& (n - 1)) % 2 = 0 := m1
      have h3 : (n - 1) / 2 = n / 2 - 1 := by omega
      rw [h3] at d1
      have := ih (n / 2) (by omega) (by omega)
      have le : (n / 2 &&& (n / 2 - 1)) ≤ n / 2 := Nat.and_le_left
      rw [twosN_even h0 e, Nat.pow_succ, ← this]
      omega
    · have e2 : (n - 1) % 2 = 0 := by omega
      rw [e, e2] at m1
      have m1 : (n &&& (n - 1)) % 2 = 0 := m1
      have h3 : (n - 1) / 2 = n / 2 := by omega
      rw [h3, Nat.and_self] at d1
      rw [twosN_odd e]
      show _ = 1
      omega
theorem twos_bits {n : Int} (h : n ≠ 0) : ((Builtin.Int.intBits (Builtin.bitAnd n (-n)) : Nat) : Int) - 1 = twos n := by
  have key : ∀ m : Int, 0 < m → Builtin.bitAnd m (-m) = ((2 ^ twosN m.natAbs : Nat) : Int) := fun m hm => by
    rw [bitAnd_pn (by omega) (by omega)]
    have e : (Builtin.bitNot (-m)).toNat = m.natAbs - 1 := by
      show (-(-m) - 1).toNat = _
      omega
    have := low_bit m.natAbs (by omega)
    have le : (m.natAbs &&& (m.natAbs - 1)) ≤ m.natAbs := Nat.and_le_left
    rw [e, show m.toNat = m.natAbs by omega]
    omega
  have both : Builtin.bitAnd n (-n) = ((2 ^ twosN n.natAbs : Nat) : Int) := by
    rcases Int.lt_or_gt_of_ne h with lt | gt
    · rw [bitAnd_comm]
      have := key (-n) (by omega)
      rw [Int.neg_neg, Int.natAbs_neg] at this
      exact this
    · exact key n gt
  rw [both]
  unfold Builtin.Int.intBits twos
  have pos := Nat.two_pow_pos (twosN n.natAbs)
  have ne : ((2 ^ twosN n.natAbs : Nat) : Int) ≠ 0 := fun e => by
    have := Int.ofNat.inj e
    omega
  rw [if_neg (by rw [beq_iff_eq]; exact ne), Int.natAbs_natCast, Nat.log2_two_pow]
  omega
theorem bit_ok (n : Int) : True := trivial
end AP

set_option maxHeartbeats 4000000
/-! Good orders: what the program's loop does, as a function of Lean. -/
namespace AP
open PySem PySem.Spec PyProof.Rows L2 Evl
abbrev KC := List (Int × Int)
/-- the first of the least -/
def pickMin : KC → Option (Int × Int)
  | [] => none
  | x :: r => match pickMin r with
    | none => some x
    | some y => if x.2 ≤ y.2 then some x else some y
def behind (kvs : KC) (t : Int) : KC := (kvs.filter fun p => decide (p.1 ≠ t)).map fun p => (p.1, p.2 + twos (p.1 - t))
def orun : Nat → KC → KC
  | 0, _ => []
  | n + 1, kvs => match pickMin kvs with
    | none => []
    | some x => x :: orun n (behind kvs x.1)
def run0 (ps : List Int) : KC := orun ps.length (ps.map fun p => (p, 0))
def orderOf (ps : List Int) : List Int := (run0 ps).map (·.1)
def numbersOf (ps : List Int) : List Int := (run0 ps).map (·.2)
theorem pick_some : ∀ {kvs : KC}, kvs ≠ [] → ∃ x, pickMin kvs = some x ∧ x ∈ kvs ∧ (∀ y ∈ kvs, x.2 ≤ y.2) ∧ ((kvs.filter fun p => decide (p.2 = x.2)).map (·.1))[0]? = some x.1
  | [], h => absurd rfl h
  | [x], _ => ⟨x, rfl, by simp, by simp, by simp⟩
  | x :: z :: r, _ => by
    obtain ⟨y, h1, h2, h3, h4⟩ := pick_some (kvs := z :: r) (by simp)
    by_cases h : x.2 ≤ y.2
    · refine ⟨x, ?_, by simp, fun w hw => ?_, ?_⟩
      · show (match pickMin (z :: r) with | none => some x | some y => if x.2 ≤ y.2 then some x else some y) = some x
        rw [h1]
        show (if x.2 ≤ y.2 then some x else some y) = some x
        rw [if_pos h]
      · rcases List.mem_cons.mp hw with rfl | hw
        · exact Int.le_refl _
        · exact Int.le_trans h (h3 w hw)
      · rw [List.filter_cons, if_pos (by simp)]
        rfl
    · refine ⟨y, ?_, List.mem_cons_of_mem _ h2, fun w hw => ?_, ?_⟩
      · show (match pickMin (z :: r) with | none => some x | some y => if x.2 ≤ y.2 then some x else some y) = some y
        rw [h1]
        show (if x.2 ≤ y.2 then some x else some y) = some y
        rw [if_neg h]
      · rcases List.mem_cons.mp hw with rfl | hw
        · omega
        · exact h3 w hw
      · rw [List.filter_cons, if_neg (by simp; omega)]
        exact h4
theorem pick_nil {kvs : KC} (h : pickMin kvs = none) : kvs = [] := by
  cases kvs with
  | nil => rfl
  | cons x r =>
    obtain ⟨y, e, _⟩ := pick_some (kvs := x :: r) (by simp)
    rw [h] at e
    cases e
theorem behind_keys (kvs : KC) (t : Int) : (behind kvs t).map (·.1) = (kvs.map (·.1)).filter fun k => decide (k ≠ t) := by
  unfold behind
  rw [List.map_map, List.filter_map]
  rfl
theorem filter_one {t : Int} : ∀ {ks : List Int}, ks.Nodup → t ∈ ks → (ks.filter fun k => decide (k ≠ t)).length + 1 = ks.length
  | [], _, h => by cases h
  | k :: ks, nd, h => by
    have nd' := List.nodup_cons.mp nd
    by_cases e : k = t
    · subst e
      rw [List.filter_cons, if_neg (by simp), List.filter_eq_self.mpr fun x hx => by simp; exact fun e => nd'.1 (e ▸ hx)]
      rfl
    · rw [List.filter_cons, if_pos (by simp; exact e), List.length_cons, List.length_cons, filter_one nd'.2 (by
        rcases List.mem_cons.mp h with h | h
        · exact absurd h.symm e
        · exact h)]
theorem behind_len {kvs : KC} {t : Int} (nd : (kvs.map (·.1)).Nodup) (h : t ∈ kvs.map (·.1)) : (behind kvs t).length + 1 = kvs.length := by
  have := filter_one nd h
  rw [← behind_keys, List.length_map, List.length_map] at this
  exact this
theorem behind_nodup {kvs : KC} {t : Int} (nd : (kvs.map (·.1)).Nodup) : ((behind kvs t).map (·.1)).Nodup := by
  rw [behind_keys]
  exact nd.filter _
theorem orun_cons {kvs : KC} {x : Int × Int} (nd : (kvs.map (·.1)).Nodup) (h : pickMin kvs = some x) (hx : x ∈ kvs) : orun kvs.length kvs = x :: orun (behind kvs x.1).length (behind kvs x.1) := by
  have := behind_len nd (List.mem_map.mpr ⟨x, hx, rfl⟩)
  rw [← this, orun, h]
/-! contracts -/
def cNeedWhole : Con Int Unit := ⟨fun n => [Py.is n], nop, fun _ => 0, fun _ _ => True⟩
def cTwosIn : Con Int Int := ⟨fun n => [Py.is n], fun n _ => n ≠ 0, fun _ => 0, fun n t => t = twos n⟩
def cCosts0 : Con (List Int) DictI := ⟨fun ps => [Py.is ps], fun ps _ => ps.Nodup ∧ ps.length ≤ 30000, fun _ => 0, fun ps d => d = ⟨ps.map fun p => (p, 0)⟩⟩
def KcOk (kvs : KC) : Prop := (kvs.map (·.1)).Nodup ∧ kvs.length ≤ 30000
def cBehind : Con (DictI × Int) DictI := ⟨fun i => [Py.is i.1, Py.is i.2], fun i _ => KcOk i.1.kvs, fun _ => 0, fun i d => d = ⟨behind i.1.kvs i.2⟩⟩
def cOrdered : Con (List Int) (List Int × List Int) := ⟨fun ps => [Py.is ps], fun ps _ => ps.Nodup ∧ ps.length ≤ 30000, fun _ => 0, fun ps r => r = (orderOf ps, numbersOf ps)⟩
def cGoodOrder : Con (Int × List Int) (List Int × List Int) := ⟨fun i => [Py.is i.1, Py.is i.2], fun i _ => wOk i.1 ∧ Places i.1 i.2, fun _ => 0, fun i r => r = (orderOf i.2, numbersOf i.2)⟩
def cLeastTwos : Con (Int × List Int × Int) Int := ⟨fun i => [Py.is i.1, Py.is i.2.1, Py.is i.2.2], fun i _ => wOk i.1 ∧ Places i.1 i.2.1 ∧ 0 ≤ i.2.2 ∧ i.2.2 ≤ i.2.1.length, fun _ => 0, fun i r => r = ((numbersOf i.2.1).take i.2.2.toNat).sum⟩
theorem keeps_list {xs : List (Int × Int)} {p : Int × Int → Bool} {kf vf : Int × Int → Int} : keepsD (fun i => p (xs.getD i (0, 0))) (fun i => kf (xs.getD i (0, 0))) (fun i => vf (xs.getD i (0, 0))) xs.length = (xs.filter p).map fun x => (kf x, vf x) := by
  have key : ∀ m, m ≤ xs.length → keepsD (fun i => p (xs.getD i (0, 0))) (fun i => kf (xs.getD i (0, 0))) (fun i => vf (xs.getD i (0, 0))) m = ((xs.take m).filter p).map fun x => (kf x, vf x) := by
    intro m
    induction m with
    | zero => intro _; rfl
    | succ m ih =>
      intro hm
      have e : xs.getD m (0, 0) = xs[m] := by rw [List.getD_eq_getElem?_getD, List.getElem?_eq_getElem (by omega)] <;> rfl
      rw [List.take_add_one, List.getElem?_eq_getElem (show m < xs.length by omega), List.filter_append, List.map_append, ← ih (by omega)]
      cases hp : p xs[m] with
      | true =>
        rw [keeps_yes (by rw [e]; exact hp), e]
        show _ = _ ++ List.map _ (List.filter p [xs[m]])
        rw [List.filter_cons, if_pos hp] <;> rfl
      | false =>
        rw [keeps_no (by rw [e]; exact hp)]
        show _ = _ ++ List.map _ (List.filter p [xs[m]])
        rw [List.filter_cons, if_neg (by rw [hp]; decide)]
        show _ = _ ++ []
        rw [List.append_nil]
  have := key xs.length (Nat.le_refl _)
  rw [List.take_length] at this
  exact this
theorem sel_list {xs : KC} {p : Int × Int → Bool} {kf : Int × Int → Int} : ((List.range xs.length).filter fun i => p (xs.getD i (0, 0))).map (fun i => kf (xs.getD i (0, 0))) = (xs.filter p).map kf := by
  have := keeps_list (xs := xs) (p := p) (kf := kf) (vf := fun _ => 0)
  unfold keepsD at this
  have := congrArg (List.map (·.1)) this
  rw [List.map_map, List.map_map] at this
  exact this
/-- unlike keys: no turn's key stands among the earlier ones -/
theorem keeps_nd {xs : KC} {p : Int × Int → Bool} {vf : Int × Int → Int} (nd : (xs.map (·.1)).Nodup) {i : Nat} (hi : i < xs.length) :
    (xs.getD i (0, 0)).1 ∉ (keepsD (fun i => p (xs.getD i (0, 0))) (fun i => (xs.getD i (0, 0)).1) (fun i => vf (xs.getD i (0, 0))) i).map (·.1) := fun h => by
  obtain ⟨x, hx, e⟩ := List.mem_map.mp h
  obtain ⟨j, hj, rfl⟩ := List.mem_map.mp hx
  have hj := List.mem_range.mp (List.mem_filter.mp hj).1
  have e : (xs.getD j (0, 0)).1 = (xs.getD i (0, 0)).1 := e
  have a : ∀ k (hk : k < xs.length), (xs.getD k (0, 0)).1 = (xs.map (·.1))[k]'(by rw [List.length_map]; exact hk) := fun k hk => by
    rw [List.getElem_map, List.getD_eq_getElem?_getD, List.getElem?_eq_getElem hk] <;> rfl
  rw [a j (by omega), a i hi] at e
  have := (List.getElem_inj nd).mp e
  omega
theorem Places.nodup {w : Int} {ps : List Int} (h : Places w ps) : ps.Nodup ∧ ∀ p ∈ ps, 0 ≤ p ∧ p ≤ top w := by
  obtain ⟨h, _⟩ := h
  have h : ((ps.map Dat.int).all (Dat.word w) && (decide (0 < (ps.map Dat.int).length) && climbs ((ps.map Dat.int).map Dat.toI))) = true := h
  rw [List.map_map, show ps.map (Dat.toI ∘ Dat.int) = ps from List.map_id _] at h
  simp only [Bool.and_eq_true] at h
  obtain ⟨h1, _, h3⟩ := h
  unfold climbs at h3
  rw [List.all_eq_true] at h3
  have step : ∀ i, i + 1 < ps.length → ps.getD i 0 < ps.getD (i + 1) 0 := fun i hi => of_decide_eq_true (h3 i (List.mem_range.mpr (by omega)))
  have lt : ∀ i j, i < j → j < ps.length → ps.getD i 0 < ps.getD j 0 := by
    intro i j hij
    induction j with
    | zero => omega
    | succ j ih =>
      intro hj
      rcases Nat.lt_or_ge i j with h | h
      · exact Int.lt_trans (ih h (by omega)) (step j hj)
      · have : i = j := by omega
        subst this
        exact step i hj
  refine ⟨List.pairwise_iff_getElem.mpr fun i j hi hj hij e => ?_, fun p hp => ?_⟩
  · have := lt i j hij hj
    rw [List.getD_eq_getElem?_getD, List.getD_eq_getElem?_getD, List.getElem?_eq_getElem hi, List.getElem?_eq_getElem hj] at this
    have this : ps[i] < ps[j] := this
    omega
  · have := List.all_eq_true.mp h1 (.int p) (List.mem_map.mpr ⟨p, hp, rfl⟩)
    exact Dat.within_int this
section
variable {G : Option Addr} {c0 c1 c2 c3 : Nat} {t0 t1 t2 t3 : TE} {Γ : AP.Ctx}
theorem y_needWhole {n : Int} {E : XK} (h0 : Ty G c0 t0 Γ (· = n)) : Ty G (c0 + 0 + 0) (tCall cNeedWhole.sp [] E (tCons t0 tNil)) Γ (fun _ : Unit => True) := ty_call (C := cNeedWhole) n (ta_cons h0 ta_nil) trivial
theorem y_twosIn {n : Int} {E : XK} (h0 : Ty G c0 t0 Γ (· = n)) (p : n ≠ 0) : Ty G (c0 + 0 + 0) (tCall cTwosIn.sp [] E (tCons t0 tNil)) Γ (· = twos n) := ty_call (C := cTwosIn) n (ta_cons h0 ta_nil) p
theorem y_costs0 {ps : List Int} {E : XK} (h0 : Ty G c0 t0 Γ (· = ps)) (p : ps.Nodup ∧ ps.length ≤ 30000) : Ty G (c0 + 0 + 0) (tCall cCosts0.sp [] E (tCons t0 tNil)) Γ (· = DictI.mk (ps.map fun p => (p, 0))) := ty_call (C := cCosts0) ps (ta_cons h0 ta_nil) p
theorem y_behind {d : DictI} {t : Int} {E : XK} (h0 : Ty G c0 t0 Γ (· = d)) (h1 : Ty G c1 t1 Γ (· = t)) (p : KcOk d.kvs) : Ty G (c0 + (c1 + 0) + 0) (tCall cBehind.sp [] E (tCons t0 (tCons t1 tNil))) Γ (· = DictI.mk (behind d.kvs t)) := ty_call (C := cBehind) (d, t) (ta_cons h0 (ta_cons h1 ta_nil)) p
theorem y_ordered {ps : List Int} {E : XK} (h0 : Ty G c0 t0 Γ (· = ps)) (p : ps.Nodup ∧ ps.length ≤ 30000) : Ty G (c0 + 0 + 0) (tCall cOrdered.sp [] E (tCons t0 tNil)) Γ (· = (orderOf ps, numbersOf ps)) := ty_call (C := cOrdered) ps (ta_cons h0 ta_nil) p
theorem y_goodOrder {w : Int} {ps : List Int} {E : XK} (h0 : Ty G c0 t0 Γ (· = w)) (h1 : Ty G c1 t1 Γ (· = ps)) (p : wOk w ∧ Places w ps) : Ty G (c0 + (c1 + 0) + 0) (tCall cGoodOrder.sp [] E (tCons t0 (tCons t1 tNil))) Γ (· = (orderOf ps, numbersOf ps)) := ty_call (C := cGoodOrder) (w, ps) (ta_cons h0 (ta_cons h1 ta_nil)) p
theorem y_leastTwos {w m : Int} {ps : List Int} {E : XK} (h0 : Ty G c0 t0 Γ (· = w)) (h1 : Ty G c1 t1 Γ (· = ps)) (h2 : Ty G c2 t2 Γ (· = m)) (p : wOk w ∧ Places w ps ∧ 0 ≤ m ∧ m ≤ ps.length) :
    Ty G (c0 + (c1 + (c2 + 0)) + 0) (tCall cLeastTwos.sp [] E (tCons t0 (tCons t1 (tCons t2 tNil)))) Γ (· = ((numbersOf ps).take m.toNat).sum) := ty_call (C := cLeastTwos) (w, ps, m) (ta_cons h0 (ta_cons h1 (ta_cons h2 ta_nil))) p
theorem k_leastTwos {w m : Int} {ps : List Int} {E : XK} (h0 : Ty G c0 t0 Γ (· = w)) (h1 : Ty G c1 t1 Γ (· = ps)) (h2 : Ty G c2 t2 Γ (· = m)) (p : wOk w ∧ Places w ps ∧ 0 ≤ m ∧ m ≤ ps.length) :
    Ty G (0 + (c2 + (c1 + (c0 + 0))) + 0) (tCallK cLeastTwos.sp (fun _ ks => ks.reverse) E tNil (tCons t2 (tCons t1 (tCons t0 tNil)))) Γ (· = ((numbersOf ps).take m.toNat).sum) := ty_callR (C := cLeastTwos) (w, ps, m) (ta_cons h2 (ta_cons h1 (ta_cons h0 ta_nil))) p
end
end AP

set_option maxHeartbeats 4000000
/-! A generator in a slot; lists that grow and are read in between; the draws of places that most laws share. -/
namespace AP
open PySem PySem.Spec PyProof.Rows L2 Evl
section
variable {K : PySem.W.Frag} {G : Option Addr} {c c0 c1 c2 : Nat} {te ta tb : TE} {Γ : AP.Ctx} {α : Type} [Py α] {A : α → Prop} {B B' H H' B0 H0 : Hp} {v w : V} {σ : L2.St} {z z' z0 : Int} {D : Ends} {tz : TS}
/-- what was done while a growing list stood still -/
theorem Nx.outside {l : Addr} {o : HO} (s0 : At G z0 B0 H0) (n : Nx G c1 z0 B0 H0 z B H) (hl : H l = some o) (nl : B l = none) (n0 : H0 l = none) (m : Nx G c2 z (upd B l o) H z' B' H') : Nx G (c1 + c2) z0 B0 H0 z' B H' :=
  have f := (n.freeze s0 hl nl n0).1.trans s0 m
  ⟨⟨((Ex.new nl).trans m.up).trans f.at_.ex, fun g hg => ⟨(n.at_.gen g hg).1, (f.at_.gen g hg).2⟩⟩, n.up, n.new, f.lo, f.hi, f.keep⟩
/-- to a lesser unchanging part -/
theorem Slo.sink {Γ2 : AP.Ctx} (en : Slo B' σ Γ) (len : Γ2.length = Γ.length) (h : ∀ (k : Nat) (P2 : VP), Γ2[k]? = some (some P2) → ∃ P : VP, Γ[k]? = some (some P) ∧ Stays P2 ∧ ∀ v, P v B' → P2 v B) : Slo B σ Γ2 := ⟨by rw [len]; exact en.len, fun k P2 q => by
  obtain ⟨P, e, st, f⟩ := h k P2 q
  obtain ⟨v, h1, _, h3⟩ := en.all k P e
  exact ⟨v, h1, st, f v h3⟩⟩
theorem q_app (s0 : At G z0 B0 H0) (n : Nx G c0 z0 B0 H0 z B H) (en : Slo B σ Γ) {k : Nat} {l : Addr} {us : List V} (hk : Γ[k]? = some (some (RefP l))) (hl : H l = some (.lst us)) (nl : B l = none) (n0 : H0 l = none) (small : us.length < 100000)
    (h : Ty G c te Γ A) (hz : z0 + (c0 + c) ≤ 2 ^ 50)
    (kk : ∀ x v z' B' H', A x → Py.is x v B' → Ex B B' → Nx G (c0 + c) z0 B0 H0 z' B' H' → Slo B' σ Γ → H' l = some (.lst (us ++ [v])) → B' l = none → D.nx σ H') :
    tDrop (tBM K "list" rAppend (tVar k) (tCons te tNil)) D σ H :=
  q_appS (tz := fun _ => D.nx) (D := D) s0 n en hk hl nl n0 small h hz fun x v z' B' H' a b c d e f g _ _ => kk x v z' B' H' a b c d e f g
/-- a, l = e, [] -/
theorem q_parNewS {i j : Nat} (s0 : At G z0 B0 H0) (n : Nx G c0 z0 B0 H0 z B H) (en : Slo B σ Γ) (h : Ty G c te Γ A) (hz : z0 + (c0 + c) ≤ 2 ^ 50)
    (k : ∀ x l z' B' H' σ', A x → H' l = none → Nx G (c0 + c) z0 B0 H0 z' B' (upd H' l (.lst [])) → Slo B' σ' ((Γ.set i (some (Py.is x))).set j (some (RefP l))) → B' l = none → H0 l = none → tz D σ' (upd H' l (.lst []))) :
    tSeq (tPar i j (tCons te (tCons (tLst tNil) tNil))) tz D σ H := by
  refine h z B σ H en n.at_ (by have := n.hi; omega) _ fun x v z1 B1 H1 ax n1 hv => ?_
  refine ⟨by show 0 ≤ sizeLine; exact Nat.zero_le _, fun l hl => ?_⟩
  have nn := n.trans s0 n1
  refine ⟨v, .ref l, rfl, k x l z1 B1 H1 _ ax hl ((nn.trans s0 (Nx.more nn.at_ (Ex.new hl))).le (by omega)) (((en.up n1.up).put hv).set RefP.stays rfl) ?_ (nn.gone s0 hl)⟩
  cases e : B1 l with
  | none => rfl
  | some o => rw [nn.at_.ex _ _ e] at hl; cases hl
/-- a, l = (e, []) through a tuple -/
theorem q_parTNewS {i j : Nat} (s0 : At G z0 B0 H0) (n : Nx G c0 z0 B0 H0 z B H) (en : Slo B σ Γ) (h : Ty G c te Γ A) (hz : z0 + (c0 + c) ≤ 2 ^ 50)
    (k : ∀ x l z' B' H' σ', A x → H' l = some (.lst []) → Nx G (c0 + c) z0 B0 H0 z' B' H' → Slo B' σ' ((Γ.set i (some (Py.is x))).set j (some (RefP l))) → B' l = none → H0 l = none → tz D σ' H') :
    tSeq (tAsg (tTup (tCons te (tCons (tLst tNil) tNil))) (gTup K 2 (gCons (gName i) (gCons (gName j) gNil)))) tz D σ H := by
  refine h z B σ H en n.at_ (by have := n.hi; omega) _ fun x v z1 B1 H1 ax n1 hv => ?_
  refine ⟨by show 0 ≤ sizeLine; exact Nat.zero_le _, fun l hl => ?_⟩
  have nn := n.trans s0 n1
  have n2 := (nn.trans s0 (Nx.more nn.at_ (Ex.new (o := .lst []) hl)))
  have nl : B1 l = none := by
    cases e : B1 l with
    | none => rfl
    | some o => rw [nn.at_.ex _ _ e] at hl; cases hl
  refine ⟨sz_of (by simp), fun p hp => ⟨p, [v, .ref l], rfl, st_of upd_same, rfl, v, _, rfl, .ref l, _, rfl, rfl, ?_⟩⟩
  have n3 := n2.trans s0 (Nx.more n2.at_ (Ex.new (o := .tup [v, .ref l]) hp))
  have ne : l ≠ p := fun e => by rw [← e, upd_same] at hp; cases hp
  exact k x l z1 B1 _ _ ax (by rw [upd_ne ne, upd_same]) (n3.le (by omega)) (((en.up n1.up).put hv).set RefP.stays rfl) nl (nn.gone s0 hl)
/-- g = generator(script, i) -/
theorem q_genS {a : Addr} {ns : List Int} {k l m : Nat} {i : Nat} {E : XK} (s0 : At none z0 B0 H0) (n : Nx none c0 z0 B0 H0 z B H) (en : Slo B σ Γ)
    (h1 : Γ[k]? = some (some (ScP K a ns))) (h2 : Γ[l]? = some (some (Py.is ((i : Nat) : Int)))) (hi : i ≤ 1000)
    (kk : ∀ p z1 H1 σ', At (some p) z1 B H1 → 0 ≤ z1 → z1 ≤ 1000000 → (∀ c z' B' H', Nx (some p) c z1 B H1 z' B' H' → Nx none c0 z0 B0 H0 z B' H') → Slo B σ' (Γ.set m (some (Py.is (GenR.mk p)))) → tz D σ' H1) :
    tSeq (tAsg (tCall (spGenerator K) [] E (tCons (tVar k) (tCons (tVar l) tNil))) (gName m)) tz D σ H := by
  obtain ⟨v, e1, _, ev, hs⟩ := en.all k _ h1
  subst ev
  obtain ⟨u, e2, _, hu⟩ := en.all l _ h2
  cases (show u = .int (i : Int) from hu)
  refine ⟨_, e1, _, e2, ?_⟩
  refine ⟨a, ns, i, rfl, ex_l n.at_.ex hs, hi, fun p H1 np ex1 gen => ?_⟩
  obtain ⟨x, y, z1, g1, g2, ⟨g3, g4⟩, g5, g6⟩ := gen
  have nB : B p = none := fresh_back n.at_.ex np
  have at1 : At (some p) z1 B H1 := ⟨n.at_.ex.trans ex1, fun g eg => by cases eg; exact ⟨nB, x, y, g1, g2, g3, g4, g5⟩⟩
  refine kk p z1 H1 _ at1 g5 g6 (fun c z' B' H' nx => ?_) (en.put rfl)
  have b : Nx none 0 z B H z B' H' := ⟨⟨nx.at_.ex, fun g eg => by cases eg⟩, nx.up, fun b o hb => by
    rcases nx.new b o hb with h | h
    · exact .inl h
    · exact .inr (fresh_back ex1 h), Int.le_refl _, by omega, fun b o _ hb => nx.keep b o (fun z => by cases z; rw [np] at hb; cases hb) (ex1 b o hb)⟩
  exact (n.trans s0 b).le (by omega)
end
/-! what the draws of places say -/
def AscN (w m : Int) (ps : List Int) : Prop := 0 < ps.length ∧ (ps.length : Int) ≤ m ∧ (∀ p ∈ ps, 0 ≤ p ∧ p < 2 ^ w.toNat) ∧ ps.Pairwise (· < ·)
theorem climbs_up {ns : List Int} (h : ns.Pairwise (· < ·)) : climbs ns = true := by
  unfold climbs
  rw [List.all_eq_true]
  intro i hi
  have hi := List.mem_range.mp hi
  have h1 : i < ns.length := by omega
  have h2 : i + 1 < ns.length := by omega
  rw [decide_eq_true_eq, List.getD_eq_getElem?_getD, List.getD_eq_getElem?_getD, List.getElem?_eq_getElem h1, List.getElem?_eq_getElem h2]
  exact List.pairwise_iff_getElem.mp h i (i + 1) h1 h2 (Nat.lt_succ_self i)
theorem word_in {w p : Int} (h : 0 ≤ p ∧ p < 2 ^ w.toNat) : (Dat.int p).word w = true := by
  show (decide (0 ≤ p) && decide (p ≤ 2 ^ w.toNat - 1)) = true
  rw [decide_eq_true h.1, decide_eq_true (by omega)] <;> rfl
theorem AscN.places {w m : Int} {ps : List Int} (h : AscN w m ps) (hm : m ≤ 30000) : Places w ps := by
  refine ⟨?_, by have := h.2.1; omega⟩
  show ((ps.map Dat.int).all (Dat.word w) && (decide (0 < (ps.map Dat.int).length) && climbs ((ps.map Dat.int).map Dat.toI))) = true
  rw [List.map_map, List.length_map, decide_eq_true h.1, show ps.map (Dat.toI ∘ Dat.int) = ps from List.map_id _, climbs_up h.2.2.2, List.all_map]
  simp only [Bool.and_true, List.all_eq_true]
  exact fun x hx => word_in (h.2.2.1 x hx)
theorem AscN.nodup {w m : Int} {ps : List Int} (h : AscN w m ps) : ps.Nodup := h.2.2.2.imp fun h => by omega
theorem sorted_asc {w m : Int} {l ns : List Int} (pm : l.Perm ns) (so : l.Pairwise (· ≤ ·)) (nd : ns.Nodup) (h0 : 0 < ns.length) (hm : (ns.length : Int) ≤ m) (bd : ∀ p ∈ ns, 0 ≤ p ∧ p < 2 ^ w.toNat) : AscN w m l := by
  have ndL : l.Nodup := pm.symm.nodup nd
  refine ⟨by rw [pm.length_eq]; exact h0, by rw [pm.length_eq]; exact hm, fun p hp => bd p (pm.mem_iff.mp hp), ?_⟩
  have : l.Pairwise (fun a b : Int => a ≤ b ∧ a ≠ b) := List.Pairwise.and so ndL
  exact this.imp fun h => by omega
def cDouble : Con Int Int := ⟨fun m => [Py.is m], fun m _ => 0 ≤ m ∧ m ≤ 200, fun _ => 0, fun m n => n = 2 ^ m.toNat⟩
def cDPlaces : Con (Addr × Int × Int) (List Int) := ⟨fun i => [Py.is (GenR.mk i.1), Py.is i.2.1, Py.is i.2.2], fun i G => G = some i.1 ∧ wOk i.2.1 ∧ 1 ≤ i.2.2 ∧ i.2.2 ≤ 100 ∧ i.2.2 ≤ 2 ^ i.2.1.toNat, fun _ => 40000, fun i ps => AscN i.2.1 i.2.2 ps⟩
def cNear : Con (Addr × Int × Int) (List Int) := ⟨fun i => [Py.is (GenR.mk i.1), Py.is i.2.1, Py.is i.2.2], fun i G => G = some i.1 ∧ wOk i.2.1 ∧ 1 ≤ i.2.2 ∧ i.2.2 ≤ 100, fun _ => 40000, fun i ps => AscN i.2.1 i.2.2 ps⟩
def cDrawn : Con (Addr × Int × Int) (List Int) := ⟨fun i => [Py.is (GenR.mk i.1), Py.is i.2.1, Py.is i.2.2], fun i G => G = some i.1 ∧ wOk i.2.1 ∧ 1 ≤ i.2.2 ∧ i.2.2 ≤ 100, fun _ => 50000, fun i ps => AscN i.2.1 i.2.2 ps⟩
def cTwosL : Con Int Int := ⟨fun n => [Py.is n], fun n _ => n.natAbs < 2 ^ 200, fun _ => 0, fun n t => t = twos n⟩
section
variable {G : Option Addr} {c0 c1 c2 : Nat} {t0 t1 t2 : TE} {Γ : AP.Ctx} {g : Addr}
theorem y_double {m : Int} {E : XK} (h0 : Ty G c0 t0 Γ (· = m)) (p : 0 ≤ m ∧ m ≤ 200) : Ty G (c0 + 0 + 0) (tCall cDouble.sp [] E (tCons t0 tNil)) Γ (· = (2 : Int) ^ m.toNat) := ty_call (C := cDouble) m (ta_cons h0 ta_nil) p
theorem y_doubleN {A : Int → Prop} {E : XK} (h0 : Ty G c0 t0 Γ A) (p : ∀ m, A m → 0 ≤ m ∧ m ≤ 200) : Ty G (c0 + 0 + 0) (tCall cDouble.sp [] E (tCons t0 tNil)) Γ (fun n => ∃ m, A m ∧ n = (2 : Int) ^ m.toNat) :=
  ty_callN (C := cDouble) (ta_consN h0 ta_nil) fun vs B al => by
    obtain ⟨v, rfl, m, am, hv⟩ := al.one
    exact ⟨m, .cons (Py.stays m) hv .nil, p m am, Nat.le_refl _, fun y hy => ⟨m, am, hy⟩⟩
theorem y_dplaces {E : XK} {wd m : Int} (h0 : Ty (some g) c0 t0 Γ (· = GenR.mk g)) (h1 : Ty (some g) c1 t1 Γ (· = wd)) (h2 : Ty (some g) c2 t2 Γ (· = m)) (p : wOk wd ∧ 1 ≤ m ∧ m ≤ 100 ∧ m ≤ 2 ^ wd.toNat) :
    Ty (some g) (c0 + (c1 + (c2 + 0)) + 40000) (tCall cDPlaces.sp [] E (tCons t0 (tCons t1 (tCons t2 tNil)))) Γ (AscN wd m) := ty_call (C := cDPlaces) (g, wd, m) (ta_cons h0 (ta_cons h1 (ta_cons h2 ta_nil))) ⟨rfl, p⟩
theorem y_near {E : XK} {wd m : Int} (h0 : Ty (some g) c0 t0 Γ (· = GenR.mk g)) (h1 : Ty (some g) c1 t1 Γ (· = wd)) (h2 : Ty (some g) c2 t2 Γ (· = m)) (p : wOk wd ∧ 1 ≤ m ∧ m ≤ 100) :
    Ty (some g) (c0 + (c1 + (c2 + 0)) + 40000) (tCall cNear.sp [] E (tCons t0 (tCons t1 (tCons t2 tNil)))) Γ (AscN wd m) := ty_call (C := cNear) (g, wd, m) (ta_cons h0 (ta_cons h1 (ta_cons h2 ta_nil))) ⟨rfl, p⟩
theorem y_drawn {E : XK} {wd m : Int} (h0 : Ty (some g) c0 t0 Γ (· = GenR.mk g)) (h1 : Ty (some g) c1 t1 Γ (· = wd)) (h2 : Ty (some g) c2 t2 Γ (· = m)) (p : wOk wd ∧ 1 ≤ m ∧ m ≤ 100) :
    Ty (some g) (c0 + (c1 + (c2 + 0)) + 50000) (tCall cDrawn.sp [] E (tCons t0 (tCons t1 (tCons t2 tNil)))) Γ (AscN wd m) := ty_call (C := cDrawn) (g, wd, m) (ta_cons h0 (ta_cons h1 (ta_cons h2 ta_nil))) ⟨rfl, p⟩
theorem y_twosL {n : Int} {E : XK} (h0 : Ty G c0 t0 Γ (· = n)) (p : n.natAbs < 2 ^ 200) : Ty G (c0 + 0 + 0) (tCall cTwosL.sp [] E (tCons t0 tNil)) Γ (· = twos n) := ty_call (C := cTwosL) n (ta_cons h0 ta_nil) p
end
/-! pigeons -/
theorem nodup_le : ∀ {l m : List Int}, l.Nodup → (∀ x ∈ l, x ∈ m) → l.length ≤ m.length
  | [], _, _, _ => Nat.zero_le _
  | a :: l, m, nd, h => by
    have nd' := List.nodup_cons.mp nd
    have q := List.perm_cons_erase (h a List.mem_cons_self)
    have := nodup_le (m := m.erase a) nd'.2 fun x hx => (List.mem_erase_of_ne fun (e : x = a) => nd'.1 (e ▸ hx)).mpr (h x (List.mem_cons_of_mem _ hx))
    rw [q.length_eq, List.length_cons, List.length_cons]
    omega
/-- of so many places one behind the other one is free -/
theorem free_place {found : List Int} {p most : Int} {n : Nat} (hn : found.length < n) (hm : (n : Int) ≤ most) (h : ∀ j, j < n → (p + (j : Int)) % most ∈ found) : False := by
  have nd : ((List.range n).map fun j : Nat => (p + (j : Int)) % most).Nodup := by
    refine List.Pairwise.map _ (R := fun a b : Nat => a < b ∧ b < n) (fun a b hab e => ?_) ?_
    · have h1 := Int.emod_emod_of_dvd (p + (a : Int)) (Int.dvd_refl most)
      have d : most ∣ (p + (b : Int)) - (p + (a : Int)) := Int.dvd_of_emod_eq_zero (Int.emod_eq_emod_iff_emod_sub_eq_zero.mp e.symm)
      have := Int.le_of_dvd (by omega) d
      omega
    · refine List.pairwise_iff_getElem.mpr fun i j hi hj hij => ?_
      simp at hi hj ⊢
      exact ⟨hij, hj⟩
  have := nodup_le nd fun x hx => by
    obtain ⟨j, hj, rfl⟩ := List.mem_map.mp hx
    exact h j (List.mem_range.mp hj)
  rw [List.length_map, List.length_range] at this
  omega
/-! more of loops -/
section
variable {K : PySem.W.Frag} {G : Option Addr} {c c0 c1 c2 : Nat} {te ta tb : TE} {tt : TT} {t : TS} {Γ : AP.Ctx} {α β : Type} [Py α] [Py β] {A : α → Prop} {A1 : β → Prop} {B B' H H' B0 H0 Ba Ha Bb Hb : Hp} {v w : V} {σ : L2.St} {z z' z0 za zb : Int} {D : Ends} {tz : TS}
theorem At.ne {l : Addr} (s0 : At G z0 B0 H0) (h : H0 l = none) : G ≠ some l := fun hg => by
  obtain ⟨_, _, _, q1, _⟩ := s0.gen l hg
  rw [q1] at h
  cases h
theorem Nx.keepL {l : Addr} {o : HO} (nx : Nx G c za Ba Ha zb Bb Hb) (hg : G ≠ some l) (hl : Ha l = some o) (hb : Ba l = none) : Hb l = some o ∧ Bb l = none := by
  refine ⟨nx.keep l o hg hl, ?_⟩
  cases e : Bb l with
  | none => rfl
  | some u =>
    rcases nx.new l u e with h | h
    · rw [hb] at h; cases h
    · rw [hl] at h; cases h
theorem q_parE {i j : Nat} (s0 : At G z0 B0 H0) (n : Nx G c0 z0 B0 H0 z B H) (en : Slo B σ Γ) (h1 : Ty G c1 ta Γ A) (h2 : Ty G c2 tb Γ A1) (hz : z0 + (c0 + (c1 + c2)) ≤ 2 ^ 50)
    (k : ∀ x y z' B' H' σ', A x → A1 y → Nx G (c1 + c2) z B H z' B' H' → Nx G (c0 + (c1 + c2)) z0 B0 H0 z' B' H' → Slo B' σ' ((Γ.set i (some (Py.is x))).set j (some (Py.is y))) → D.nx σ' H') :
    tPar i j (tCons ta (tCons tb tNil)) D σ H := q_par (tz := fun _ => D.nx) (D := D) s0 n en h1 h2 hz k
def Wn (G : Option Addr) (c0 : Nat) (z0 : Int) (B0 H0 : Hp) (Inv : Nat → AP.Ctx → Prop) (m : Nat) (σ : L2.St) (H : Hp) : Prop := ∃ m' Γ z B, m' < m ∧ Inv m' Γ ∧ Nx G c0 z0 B0 H0 z B H ∧ Slo B σ Γ
/-- while, without draws, told by the slots -/
theorem q_whileS (s0 : At G z0 B0 H0) (n : Nx G c0 z0 B0 H0 z B H) (en : Slo B σ Γ) (hz : z0 + c0 ≤ 2 ^ 50) (Inv : Nat → AP.Ctx → Prop) (m0 : Nat) (h0 : Inv m0 Γ)
    (hs : ∀ m Γ', Inv m Γ' → ∃ b, TyT G 0 tt Γ' (· = b) ∧ (b = true → ∀ z' B' H' σ', Nx G c0 z0 B0 H0 z' B' H' → Slo B' σ' Γ' → t { D with nx := Wn G c0 z0 B0 H0 Inv m, ct := Wn G c0 z0 B0 H0 Inv m, bk := tz D } σ' H') ∧
      (b = false → ∀ z' B' H' σ', Nx G c0 z0 B0 H0 z' B' H' → Slo B' σ' Γ' → tz D σ' H')) : tSeq (tWhile tt t) tz D σ H :=
  q_while (D := { D with nx := tz D }) (cb := 0) s0 n en (fun _ m Γ _ _ => Inv m Γ) m0 h0 fun i m Γ' z' B' H' σ' inv n en => by
    obtain ⟨b, ht, k1, k2⟩ := hs m Γ' inv
    have n' := n.le (c2 := c0) (by simp)
    refine ⟨b, fun Q hQ => ht z' B' σ' H' en n'.at_ (by have := n'.hi; omega) Q fun b z2 B2 H2 eb n2 => by subst eb; exact hQ z2 B2 H2 n2 (en.up n2.up), fun hb z2 B2 H2 s2 en => ?_, fun hb z2 B2 H2 s2 n en => k2 hb z2 B2 H2 σ' (n.le (by simp)) en⟩
    refine ⟨Wn G c0 z0 B0 H0 Inv m, fun σ3 H3 h => ?_, k1 hb z2 B2 H2 σ' ((n'.trans s0 s2).le (by omega)) en⟩
    obtain ⟨m', Γ3, z3, B3, h1, h2, h3, h4⟩ := h
    exact ⟨m', Γ3, z3, B3, h1, h2, h3.le (by simp), h4⟩
theorem cutL_upto {xs : List α} {m : Int} (h : 0 ≤ m) : cutL xs none (some m) = xs.take m.toNat := by
  obtain ⟨k, rfl⟩ : ∃ k : Nat, m = k := ⟨m.toNat, by omega⟩
  unfold cutL
  rw [HT.sIx_none, HT.sIx_nat, List.drop_zero, Nat.sub_zero, Int.toNat_natCast]
  by_cases hk : k ≤ xs.length
  · rw [Nat.min_eq_left hk]
  · rw [Nat.min_eq_right (by omega), List.take_of_length_le (Nat.le_refl _), List.take_of_length_le (by omega)]
theorem cutL_from {xs : List α} {m : Int} (h : 0 ≤ m) : cutL xs (some m) none = xs.drop m.toNat := by
  obtain ⟨k, rfl⟩ : ∃ k : Nat, m = k := ⟨m.toNat, by omega⟩
  unfold cutL
  rw [HT.sIx_none, HT.sIx_nat, Int.toNat_natCast]
  by_cases hk : k ≤ xs.length
  · rw [Nat.min_eq_left hk, List.take_of_length_le (by rw [List.length_drop]; exact Nat.le_refl _)]
  · rw [Nat.min_eq_right (by omega), List.drop_of_length_le (Nat.le_refl _), List.drop_of_length_le (by omega), List.take_nil]
end
/-- a drawn list: what is known of each item -/
theorem ti_listNi {K : PySem.W.Frag} {G : Option Addr} {c : Nat} {Γ : AP.Ctx} {α : Type} [Py α] {A : List α → Prop} {P : Nat → α → Prop} {tl : TE} {j : Nat} (h : Ty G c tl Γ A) (hp : ∀ xs, A xs → ∀ (i : Nat) (x : α), xs[i]? = some x → P i x) :
    TyI G c (iList K tl) (gName j) Γ [j] (fun m => ∃ xs, A xs ∧ m = xs.length) (fun i Γ => Γ.set j (some (isA (P i)))) := fun z B σ H en s hz R r => by
  refine h z B σ H en s hz _ fun xs v z1 B1 H1 ax n1 hv => ?_
  obtain ⟨p, us, rfl, e1, e2⟩ := hv
  refine ⟨p, rfl, ⟨us, sq_of (n1.at_.ex _ _ e1)⟩, r _ _ z1 B1 H1 ⟨xs, ax, rfl⟩ n1 (src_name (f := fun i => isA (P i)) (fun i => isA.stays (P i)) (fun H e => ⟨us, sq_of (e _ _ e1), Nat.le_of_eq e2.len⟩) (fun i hi H e => ?_) fun i hi x' H H' e y => ?_)⟩
  · have lt : i < us.length := by rw [e2.len]; exact hi
    exact ⟨us, us[i], sq_of (e _ _ e1), List.getElem?_eq_getElem lt⟩
  · obtain ⟨q1, q2⟩ := y
    obtain ⟨x, h1, h2⟩ := e2.got (q2 us (sq_of (e _ _ e1)))
    exact ⟨q1, x, hp xs ax i x h1, h2⟩
/-- a list of ints that is at an address -/
structure LAt where
  at_ : Addr
  xs : List Int
instance : Py LAt := ⟨fun r v B => v = .ref r.at_ ∧ B r.at_ = some (.lst (r.xs.map V.int)), fun _ _ _ _ e h => ⟨h.1, e _ _ h.2⟩⟩
theorem Ty.lat {G : Option Addr} {c : Nat} {te : TE} {Γ : AP.Ctx} {l : Addr} {xs : List Int} (h : Ty G c te Γ (· = LAt.mk l xs)) : Ty G c te Γ (· = xs) := fun z B σ H en s hz Q q =>
  h z B σ H en s hz Q fun x v z' B' H' ex n hv => q xs v z' B' H' rfl n (by
    subst ex
    obtain ⟨h1, h2⟩ := hv
    rw [h1]
    exact Py.of_ints h2)
/-! each once -/
def freshB (found : List Int) (i : Nat) : Bool := !decide (found.getD i 0 ∈ found.take i)
def fresh (found : List Int) (k : Nat) : List Int := ((List.range k).filter (freshB found)).map fun i => found.getD i 0
theorem fresh_ok (found : List Int) : ∀ k, k ≤ found.length → (fresh found k).Nodup ∧ (∀ x ∈ fresh found k, x ∈ found.take k) ∧ (0 < k → 0 < (fresh found k).length) ∧ (fresh found k).length ≤ k
  | 0, _ => ⟨List.nodup_nil, by simp [fresh], fun h => absurd h (by decide), by simp [fresh]⟩
  | k + 1, h => by
    obtain ⟨h1, h2, h3, h4⟩ := fresh_ok found k (by omega)
    have e : fresh found (k + 1) = fresh found k ++ if freshB found k then [found.getD k 0] else [] := by
      unfold fresh
      rw [List.range_succ, List.filter_append, List.map_append]
      congr 1
      by_cases hb : freshB found k = true
      · rw [if_pos hb, List.filter_cons_of_pos hb] <;> rfl
      · rw [if_neg hb, List.filter_cons_of_neg hb] <;> rfl
    have tk : found.take (k + 1) = found.take k ++ [found.getD k 0] := by
      rw [List.take_succ_eq_append_getElem (by omega), List.getD_eq_getElem?_getD, List.getElem?_eq_getElem (by omega), Option.getD_some]
    rw [e, tk]
    by_cases hb : freshB found k = true
    · rw [if_pos hb]
      have hn : found.getD k 0 ∉ found.take k := by
        unfold freshB at hb
        simpa using hb
      refine ⟨List.nodup_append.mpr ⟨h1, by simp, fun a ha b hb => ?_⟩, fun x hx => ?_, fun _ => by simp, by simp; omega⟩
      · rw [List.mem_singleton.mp hb]
        exact fun e => hn (e ▸ h2 a ha)
      · rcases List.mem_append.mp hx with hx | hx
        · exact List.mem_append_left _ (h2 x hx)
        · exact List.mem_append_right _ hx
    · rw [if_neg hb, List.append_nil]
      refine ⟨h1, fun x hx => List.mem_append_left _ (h2 x hx), fun _ => ?_, by omega⟩
      by_cases hk : k = 0
      · subst hk
        exact absurd (by simp [freshB]) hb
      · exact h3 (by omega)
theorem twos_log (n : Int) (h : n.natAbs < 2 ^ 200) : twos n ≤ 200 := by
  have tw : ∀ f n, twF f n ≤ f := fun f => by
    induction f with
    | zero => exact fun _ => Nat.le_refl _
    | succ f ih =>
      intro n
      rw [twF]
      split
      · exact Nat.succ_le_succ (ih _)
      · exact Nat.zero_le _
  have := tw (n.natAbs.log2 + 1) n.natAbs
  have l : n.natAbs.log2 < 200 := PySem.Flt.log2_lt_of (by decide) h
  unfold twos twosN
  omega
theorem twos_zero : twos 0 = 0 := by unfold twos; rw [show (0 : Int).natAbs = 0 from rfl, twosN_zero]; rfl
end AP

set_option maxHeartbeats 4000000
/-! Results that are new: what is told may be changed by who asked. -/
namespace AP
open PySem PySem.Spec PyProof.Rows L2 Evl
/-- what is in the one and not in the other -/
def diff (B' B : Hp) : Hp := fun a => if B a = none then B' a else none
theorem diff_sub (B' B : Hp) : Ex (diff B' B) B' := fun a o h => by
  unfold diff at h
  split at h
  · exact h
  · cases h
theorem diff_mono {B0 B B' : Hp} (e : Ex B0 B) : Ex (diff B' B) (diff B' B0) := fun a o h => by
  unfold diff at h ⊢
  split at h
  · rename_i hb
    have : B0 a = none := by
      cases e0 : B0 a with
      | none => rfl
      | some u => rw [e _ _ e0] at hb; cases hb
    rw [if_pos this]
    exact h
  · cases h
theorem diff_up {B B1 B' : Hp} (e : Ex B1 B') : Ex (diff B1 B) (diff B' B) := fun a o h => by
  unfold diff at h ⊢
  split at h
  · rename_i hb
    rw [if_pos hb]
    exact e _ _ h
  · cases h
theorem diff_at {B' B : Hp} {a : Addr} {o : HO} (h : diff B' B a = some o) : B a = none ∧ B' a = some o := by
  unfold diff at h
  split at h
  · rename_i hb
    exact ⟨hb, h⟩
  · cases h
theorem Each.flat {α : Type} [Py α] (fl : ∀ y : α, Flat (Py.is y)) {B B' : Hp} : ∀ {xs : List α} {vs : List V}, Each B xs vs → Each B' xs vs
  | _, _, .nil => .nil
  | _, _, .cons h r => .cons (fl _ _ _ _ h) (Each.flat fl r)
/-- an expression whose value is new, all of it -/
def TyN (G : Option Addr) (c : Nat) (te : TE) (Γ : Ctx) {α : Type} [Py α] (A : α → Prop) : Prop :=
  ∀ z B σ H, Slo B σ Γ → At G z B H → z + c ≤ 2 ^ 50 → ∀ Q : VK, (∀ x v z' B' H', A x → Nx G c z B H z' B' H' → Py.is x v (diff B' B) → Q v H') → te σ H Q
/-- a promise whose result is new, all of it -/
def Con.spN {ι β : Type} [Py β] (C : Con ι β) : Sp := fun vs H Q _ => ∃ i G z B, Alls B (C.args i) vs ∧ C.pre i G ∧ At G z B H ∧ z + C.c i ≤ 2 ^ 50 ∧
  ∀ y w z' B' H', C.post i y → Nx G (C.c i) z B H z' B' H' → Py.is y w (diff B' B) → Q w H'
section
variable {K : PySem.W.Frag} {G : Option Addr} {c c0 c1 c2 c3 : Nat} {te ta tb tx : TE} {tt tu : TT} {g : TG} {Γ : Ctx} {ι α β γ : Type} [Py α] [Py β] [Py γ] {A A' : α → Prop} {A1 : β → Prop} {Ps : List VP} {tr : TA} {B B' B0 H H0 : Hp} {v w : V} {z z0 : Int} {D : Ends} {tz : TS} {σ : L2.St}
theorem spN_sp {P : Program} {w : World} {mg : Str → Option Value} {base : Heap} {k : Nat} {f : Addr} {fd : FuncData} {ps : List Str} {C : Con ι β}
    (F : FnOk P w K mg base CX0 k f fd ps C.spN) : FnOk P w K mg base CX0 k f fd ps C.sp := F.imp fun vs H Q E h => by
  obtain ⟨i, G, z, B, al, hp, at0, hz, q⟩ := h
  exact ⟨i, G, z, B, al, hp, at0, hz, fun y w z' B' H' py nx is => q y w z' B' H' py nx (Py.st _ _ _ _ (diff_sub B' B) is)⟩
theorem TyN.ty (h : TyN G c te Γ A) : Ty G c te Γ A := fun z B σ H en s hz Q q => h z B σ H en s hz Q fun x v z' B' H' a nx is => q x v z' B' H' a nx (Py.st _ _ _ _ (diff_sub B' B) is)
theorem TyN.imp (h : TyN G c te Γ A) (i : ∀ x, A x → A' x) : TyN G c te Γ A' := fun z B σ H en s hz Q q => h z B σ H en s hz Q fun x v z' B' H' a => q x v z' B' H' (i x a)
theorem TyN.to {x y : α} (h : TyN G c te Γ (· = x)) (e : x = y) : TyN G c te Γ (· = y) := e ▸ h
theorem tn_callN {C : Con ι β} {dvs : List V} {E : XK} (h : TyA G c1 tr Γ Ps) (k : ∀ vs B, Alls B Ps vs → ∃ i, Alls B (C.args i) (vs ++ dvs) ∧ C.pre i G ∧ C.c i ≤ c2 ∧ ∀ y, C.post i y → A1 y) :
    TyN G (c1 + c2) (tCall C.spN dvs E tr) Γ A1 := fun z B σ H en s hz Q q => by
  refine h z B σ H en s (by omega) _ fun vs z1 B1 H1 al n1 => ?_
  obtain ⟨i, h1, h2, h3, h4⟩ := k vs B1 al
  exact ⟨i, G, z1, B1, h1, h2, n1.at_, by have := n1.hi; omega, fun y w z2 B2 H2 py n2 hw => q y w z2 B2 H2 (h4 y py) (n1.trans s (n2.le h3)) (Py.st _ _ _ _ (diff_mono n1.up) hw)⟩
theorem tn_call {C : Con ι β} {E : XK} (i : ι) (h : TyA G c1 tr Γ (C.args i)) (p : C.pre i G) : TyN G (c1 + C.c i) (tCall C.spN [] E tr) Γ (C.post i) :=
  tn_callN h fun vs B al => ⟨i, by rw [List.append_nil]; exact al, p, Nat.le_refl _, fun _ h => h⟩
/-- return of something new -/
theorem q_retN (s0 : At G z0 B0 H0) (n : Nx G c0 z0 B0 H0 z B H) (en : Slo B σ Γ) (h : TyN G c te Γ A) (hz : z0 + (c0 + c) ≤ 2 ^ 50)
    (k : ∀ x v z' B' H', A x → Nx G (c0 + c) z0 B0 H0 z' B' H' → Py.is x v (diff B' B0) → D.rt v H') : tRet te D σ H :=
  h z B σ H en n.at_ (by have := n.hi; omega) _ fun x v z' B' H' ax n' hv => k x v z' B' H' ax (n.trans s0 n') (Py.st _ _ _ _ (diff_mono n.up) hv)
/-- a name for something new: whence it came stays known -/
theorem q_asgN (s0 : At G z0 B0 H0) (n : Nx G c0 z0 B0 H0 z B H) (en : Slo B σ Γ) {i : Nat} (h : TyN G c te Γ A) (hz : z0 + (c0 + c) ≤ 2 ^ 50)
    (k : ∀ x v z' B' H' σ', A x → Nx G c z B H z' B' H' → Nx G (c0 + c) z0 B0 H0 z' B' H' → Py.is x v (diff B' B) → Slo B' σ' (Γ.set i (some fun u B2 => u = v ∧ Py.is x u B2)) → tz D σ' H') : tSeq (tAsg te (gName i)) tz D σ H :=
  h z B σ H en n.at_ (by have := n.hi; omega) _ fun x v z' B' H' ax n' hv => k x v z' B' H' _ ax n' (n.trans s0 n') hv ((en.up n'.up).set (fun u B2 B3 e p => ⟨p.1, Py.st _ _ _ _ e p.2⟩) ⟨rfl, Py.st _ _ _ _ (diff_sub _ _) hv⟩)
theorem tn_sorted {A : List Int → Prop} (h : Ty G c ta Γ A) : TyN G (c + 0) (tCB (rSortedI K) (tCons ta tNil)) Γ (fun l : List Int => ∃ ns : List Int, A ns ∧ l.Perm ns ∧ l.Pairwise (· ≤ ·)) := fun z B σ H en s hz Q q => by
  refine ta_consN h ta_nil z B σ H en s (by omega) _ fun vs z1 B1 H1 al n1 => ?_
  obtain ⟨v, rfl, ns, an, hv⟩ := al.one
  obtain ⟨p, rfl, h1⟩ := Py.ints hv
  refine ⟨p, ns, rfl, sq_of (n1.at_.ex _ _ h1), fun ms r pm so hr => ?_⟩
  have n2 := Nx.alloc (o := .lst (ms.map V.int)) n1.at_ hr
  have nB : B r = none := by
    have := n1.gone s hr
    cases e : B r with
    | none => rfl
    | some o => rw [s.ex _ _ e] at this; cases this
  exact q ms _ _ _ _ ⟨ns, an, pm, so⟩ ((n1.trans s n2).le (by omega)) (Py.of_ints (by unfold diff; rw [if_pos nB, upd_same]))
theorem tn_lc {wi : TI} {js vs : List Nat} {M ct cb : Nat} {An : Nat → Prop} {F : Nat → Ctx → Ctx} {T : Nat → Bool → Prop} {A : Nat → α → Prop} (h : TyI G c wi g Γ js An F) (hM : ∀ m, An m → m ≤ M) (hm : M ≤ 40000) (hj : ∀ j ∈ js, j ∈ vs)
    (ht : ∀ m, An m → ∀ i, i < m → TyT G ct tt (F i (wipeC Γ vs)) (T i)) (fl : ∀ y : α, Flat (Py.is y)) (he : ∀ m, An m → ∀ i, i < m → T i true → Ty G cb te (F i (wipeC Γ vs)) (A i)) :
    TyN G (c + M * (ct + cb)) (tLc wi g tt te vs) Γ (fun ys => ∃ m, An m ∧ Sel T A m ys) := fun z B σ H en s hz Q q => by
  refine h z B σ H en s (by omega) _ fun J m z1 B1 H1 am n1 src => fun D hD => ?_
  have mM := hM m am
  have hz : z + ((c + m * (ct + cb) : Nat) : Int) ≤ 2 ^ 50 := by
    have : m * (ct + cb) ≤ M * (ct + cb) := Nat.mul_le_mul_right _ mM
    generalize m * (ct + cb) = w1 at this ⊢
    generalize M * (ct + cb) = w2 at this hz
    omega
  replace q : ∀ (x : List α) (v : V) (z' : Int) (B' H' : Hp), Sel T A m x → Nx G (c + m * (ct + cb)) z B H z' B' H' → Py.is x v (diff B' B) → Q v H' := fun x v z' B' H' sx nx => q x v z' B' H' ⟨m, am, sx⟩ (nx.le (Nat.add_le_add_left (Nat.mul_le_mul_right _ mM) _))
  -- the word: the base without the new list
  refine ⟨fun i k H' => k + i = m ∧ ∃ ys us z' B', Sel T A i ys ∧ Each B' ys us ∧ H' D = some (.lst us) ∧ B' D = none ∧ Ex B1 B' ∧ Nx G (c + i * (ct + cb)) z B H z' B' H', ⟨m, by omega, [], [], z1, B1, .nil, .nil, upd_same, ?_, Ex.refl _, ?_⟩, ?_⟩
  · cases e : B1 D with
    | none => rfl
    | some o => rw [n1.at_.ex _ _ e] at hD; cases hD
  · exact (n1.trans s (Nx.more n1.at_ (Ex.new hD))).le (by omega)
  rintro i k H2 ⟨e, ys, us, z2, B2, sel, ea, hD2, nD, x2, n2⟩
  have nDH : H D = none := n1.gone s hD
  have gD : G ≠ some D := fun hg => by
    obtain ⟨_, _, _, q1, _⟩ := s.gen D hg
    rw [q1] at nDH
    cases nDH
  rcases Nat.lt_or_ge i m with lt | ge
  · have succ : (i + 1) * (ct + cb) = i * (ct + cb) + (ct + cb) := by rw [Nat.add_mul, Nat.one_mul]
    have bound : z + ((c + i * (ct + cb) + (ct + cb) : Nat) : Int) ≤ 2 ^ 50 := by
      have h1 : (i + 1) * (ct + cb) ≤ m * (ct + cb) := Nat.mul_le_mul_right _ lt
      have h2 : (i + 1) * (ct + cb) = i * (ct + cb) + (ct + cb) := by rw [Nat.add_mul, Nat.one_mul]
      rw [h2] at h1
      generalize i * (ct + cb) = w1 at h1 ⊢
      generalize m * (ct + cb) = w2 at h1 hz
      omega
    have dropNx : ∀ {z' : Int} {B' H' : Hp} {c' : Nat} (o : HO), B' D = none → Nx G c' z B H z' B' H' → Nx G c' z B H z' B' (upd H' D o) := fun {z' B' H' c'} o nB nx => by
      refine ⟨⟨fun a u ha => ?_, fun g' hg => ?_⟩, nx.up, nx.new, nx.lo, nx.hi, fun a u hg ha => ?_⟩
      · rw [upd_ne (ne_of_none ha nB)]
        exact nx.at_.ex a u ha
      · obtain ⟨q1, x, y, q2, q3⟩ := nx.at_.gen g' hg
        exact ⟨q1, x, y, by rw [upd_ne (fun z => gD (by rw [hg, z]))]; exact q2, q3⟩
      · rw [upd_ne (ne_of_none ha nDH)]
        exact nx.keep a u hg ha
    generalize hw' : i * (ct + cb) = w at n2 bound succ
    refine .inr ⟨src.go i lt H2 (x2.trans n2.at_.ex), fun H' => ∃ ys us z' B', Sel T A (i + 1) ys ∧ Each B' ys us ∧ H' D = some (.lst us) ∧ B' D = none ∧ Ex B1 B' ∧ Nx G (c + (i + 1) * (ct + cb)) z B H z' B' H', fun H' p => ⟨k - 1, by omega, by omega, p⟩, fun x H3 y => ?_⟩
    obtain ⟨e3, fin⟩ := src.yld i lt x H2 H3 (x2.trans n2.at_.ex) y
    have enB : Slo B2 (L2.wipe σ vs) (wipeC Γ vs) := (en.up n2.up).wipe vs
    refine fin (L2.wipe σ vs) (wipeC Γ vs) B2 enB x2 n2.at_.ex _ fun σ' en3 hw => ⟨?_, ?_⟩
    · have : ∀ (us : List Nat) (τ : L2.St), L2.wipe (L2.wipe τ us) us = L2.wipe τ us := by
        intro us
        induction us with
        | nil => intro τ; rfl
        | cons u us ih =>
          intro τ
          show (L2.wipe ((L2.wipe τ us).set u none) us).set u none = (L2.wipe τ us).set u none
          by_cases hu : u ∈ us
          · rw [wipe_set _ u _ us hu, ih]
          · have com : ∀ (ws : List Nat) (τ : L2.St), (L2.wipe (τ.set u none) ws).set u none = (L2.wipe τ ws).set u none := by
              intro ws
              induction ws with
              | nil => intro τ; show (τ.set u none).set u none = _; rw [List.set_set]; rfl
              | cons w ws ih2 =>
                intro τ
                show ((L2.wipe (τ.set u none) ws).set w none).set u none = ((L2.wipe τ ws).set w none).set u none
                by_cases k : w = u
                · subst k
                  rw [List.set_set, List.set_set]
                  exact ih2 τ
                · rw [List.set_comm _ _ k, List.set_comm _ _ k, ih2]
            rw [com us, ih]
      rw [hw vs hj, this]
    have n3 : Nx G (c + w) z B H z2 B2 H3 := (n2.trans s (Nx.more n2.at_ e3)).le (by omega)
    have keepD : ∀ {c' : Nat} {za zb : Int} {Ba Bb Ha Hb : Hp} {vs : List V}, Nx G c' za Ba Ha zb Bb Hb → Ha D = some (.lst vs) → Ba D = none → Hb D = some (.lst vs) ∧ Bb D = none := fun {c' za zb Ba Bb Ha Hb vs} nx hd hb => by
      refine ⟨nx.keep D _ gD hd, ?_⟩
      cases e : Bb D with
      | none => rfl
      | some o =>
        rcases nx.new D o e with h | h
        · rw [hb] at h; cases h
        · rw [hd] at h; cases h
    refine ht m am i lt z2 B2 σ' H3 en3 n3.at_ (by have := n3.hi; omega) _ fun b z4 B4 H4 tb n4 => ?_
    obtain ⟨hD4, nD4⟩ := keepD n4 (e3 D _ hD2) nD
    cases b with
    | false =>
      show ∃ ys us z' B', _
      refine ⟨ys, us, z4, B4, .no sel tb, ea.ex n4.up, hD4, nD4, x2.trans n4.up, (n3.trans s n4).le (by rw [succ]; omega)⟩
    | true =>
      show te σ' H4 fun y H5 => _
      refine he m am i lt tb z4 B4 σ' H4 (en3.up n4.up) n4.at_ (by have := n3.hi; have := n4.hi; omega) _ fun y v z5 B5 H5 ay n5 hv => ?_
      obtain ⟨hD5, nD5⟩ := keepD n5 hD4 nD4
      refine ⟨us, hD5, sz_lt (by rw [ea.len]; have := sel.len; omega), ys ++ [y], us ++ [v], z5, B5, .yes sel tb ay, ((ea.ex n4.up).ex n5.up).snoc hv, upd_same, nD5, (x2.trans n4.up).trans n5.up, dropNx _ nD5 (((n3.trans s n4).trans s n5).le (by rw [succ]; omega))⟩
  · cases (show i = m by omega)
    have nB : B D = none := by
      cases e : B D with
      | none => rfl
      | some o => rw [s.ex _ _ e] at nDH; cases nDH
    refine .inl ⟨src.stop H2 (x2.trans n2.at_.ex), ?_⟩
    refine q ys (.ref D) z2 (upd B2 D (.lst us)) H2 sel ⟨⟨fun a u ha => ?_, fun g' hg => ?_⟩, n2.up.trans (Ex.new nD), fun a u ha => ?_, n2.lo, n2.hi, n2.keep⟩ ⟨D, us, rfl, by unfold diff; rw [if_pos nB, upd_same], ea.flat fl⟩
    · by_cases e : a = D
      · subst e
        rw [upd_same] at ha
        rw [hD2, ha]
      · rw [upd_ne e] at ha
        exact n2.at_.ex a u ha
    · obtain ⟨q1, q2⟩ := n2.at_.gen g' hg
      exact ⟨by rw [upd_ne (fun z => gD (by rw [hg, z]))]; exact q1, q2⟩
    · by_cases e : a = D
      · subst e
        exact .inr nDH
      · rw [upd_ne e] at ha
        exact n2.new a u ha

/-- new as from a fixed beginning -/
def NewP (B0 : Hp) {α : Type} [Py α] (x : α) : VP := fun v B => Py.is x v (diff B B0)
theorem NewP.stays {B0 : Hp} {x : α} : Stays (NewP B0 x) := fun _ _ _ e h => Py.st _ _ _ _ (diff_up e) h
def TyD (B0 : Hp) (G : Option Addr) (c : Nat) (te : TE) (Γ : Ctx) {α : Type} [Py α] (A : α → Prop) : Prop :=
  ∀ z B σ H, Ex B0 B → Slo B σ Γ → At G z B H → z + c ≤ 2 ^ 50 → ∀ Q : VK, (∀ x v z' B' H', A x → Nx G c z B H z' B' H' → Py.is x v (diff B' B0) → Q v H') → te σ H Q
theorem TyN.td (h : TyN G c te Γ A) : TyD B0 G c te Γ A := fun z B σ H e en s hz Q q => h z B σ H en s hz Q fun x v z' B' H' a nx is => q x v z' B' H' a nx (Py.st _ _ _ _ (diff_mono e) is)
theorem td_var {i : Nat} {x : α} (e : Γ[i]? = some (some (NewP B0 x))) : TyD B0 G 0 (tVar i) Γ (· = x) := fun z B σ H _ en s _ Q q => by
  obtain ⟨v, h1, _, h2⟩ := en.all i _ e
  exact ⟨v, h1, q x v z B H rfl (.refl s) h2⟩
theorem td_tup2 {x : α} {y : β} (h1 : TyD B0 G c1 ta Γ (· = x)) (h2 : TyD B0 G c2 tb Γ (· = y)) : TyD B0 G (c1 + c2) (tTup (tCons ta (tCons tb tNil))) Γ (· = (x, y)) := fun z B σ H e en s hz Q q => by
  refine h1 z B σ H e en s (by omega) _ fun x' v z1 B1 H1 ex n1 hv => ?_
  refine h2 z1 B1 σ H1 (e.trans n1.up) (en.up n1.up) n1.at_ (by have := n1.hi; omega) _ fun y' w z2 B2 H2 ey n2 hw => ?_
  refine ⟨sz_of (by simp), fun p hp => ?_⟩
  subst ex ey
  have n3 := Nx.alloc (o := .tup [v, w]) n2.at_ hp
  have p0 : B0 p = none := by
    cases e0 : B0 p with
    | none => rfl
    | some o => rw [n2.at_.ex _ _ (((e.trans n1.up).trans n2.up) _ _ e0)] at hp; cases hp
  exact q _ _ _ _ _ rfl (((n1.trans s n2).trans s n3).le (by omega)) ⟨p, v, w, rfl, by unfold diff; rw [if_pos p0, upd_same], Py.st _ _ _ _ (diff_up (n2.up.trans n3.up)) hv, Py.st _ _ _ _ (diff_up n3.up) hw⟩
theorem q_retD (s0 : At G z0 B0 H0) (n : Nx G c0 z0 B0 H0 z B H) (en : Slo B σ Γ) (h : TyD B0 G c te Γ A) (hz : z0 + (c0 + c) ≤ 2 ^ 50)
    (k : ∀ x v z' B' H', A x → Nx G (c0 + c) z0 B0 H0 z' B' H' → Py.is x v (diff B' B0) → D.rt v H') : tRet te D σ H :=
  h z B σ H n.up en n.at_ (by have := n.hi; omega) _ fun x v z' B' H' ax n' hv => k x v z' B' H' ax (n.trans s0 n') hv
theorem At.none (s0 : At G z0 B0 H0) {l : Addr} (h : H0 l = Option.none) : B0 l = Option.none := by
  cases e : B0 l with
  | none => rfl
  | some o => rw [s0.ex _ _ e] at h; cases h
/-- a list that was told new, from now on its own -/
theorem Nx.thaw {l : Addr} {us : List V} (n : Nx G c z0 B0 H0 z B H) (hl : B l = some (.lst us)) (n0 : B0 l = none) : Nx G c z0 B0 H0 z (fun a => if a = l then none else B a) H ∧ H l = some (.lst us) := by
  refine ⟨⟨⟨fun a o h => ?_, fun g hg => ?_⟩, fun a o h => ?_, fun a o h => ?_, n.lo, n.hi, n.keep⟩, n.at_.ex _ _ hl⟩
  · split at h
    · cases h
    · exact n.at_.ex a o h
  · obtain ⟨q1, q2⟩ := n.at_.gen g hg
    refine ⟨?_, q2⟩
    split
    · rfl
    · exact q1
  · split
    · rename_i e
      rw [e, n0] at h
      cases h
    · exact n.up a o h
  · split at h
    · cases h
    · exact n.new a o h
end
/-! a def whose result is new -/
section
variable {P : Program} {w : World} {K : PySem.W.Frag} {mg : Str → Option Value} {base : Heap} {ι β : Type} [Py β]
abbrev BackN (C : Con ι β) (i : ι) (G : Option Addr) (z0 : Int) (B0 H0 : Hp) (Q : VK) : Prop :=
  ∀ y w z' B' H', C.post i y → Nx G (C.c i) z0 B0 H0 z' B' H' → Py.is y w (diff B' B0) → Q w H'
theorem con_goN {x qual : Str} {st : Stmt} {f : Addr} {fd : FuncData} {N ps : List Str} {k : Nat}
    (F : Df K x qual st [] f fd) (S : FnScope N ps (defScope st)) (C : Con ι β) (hl : ∀ i, (C.args i).length = ps.length)
    (body : ∀ (cdv : Value) (A : Around) (outer : List PySem.Env) (s : Shared) (H : Hp) (E : XK) (i : ι) (G : Option Addr) (z0 : Int) (B0 : Hp),
      Room k (A.deeper (envOfC qual (defScope st) s.heap.objs.size f cdv)) → C.pre i G → At G z0 B0 H → z0 + C.c i ≤ 2 ^ 50 →
        ∃ t, PSs (cxOf CX0 P w K mg base N qual (defScope st) f cdv A outer s H E).nox (defBody st) t ∧
          ∀ (σ : L2.St) (Q : VK), Slo B0 σ (ctx0 N.length (C.args i)) → BackN C i G z0 B0 H Q → t { nx := fun _ H' => Q .non H', rt := Q } σ H) :
    FnOk P w K mg base CX0 (k + 1) f fd ps C.spN := by
  refine F.go S (fun vs H Q E h => ?_) (fun cdv A outer s H vs Q E hr h => ?_)
  · obtain ⟨i, _, _, _, al, _⟩ := h
    rw [al.len]
    exact hl i
  · obtain ⟨i, G, z0, B0, al, hp, at0, hz, q⟩ := h
    obtain ⟨t, ht, run⟩ := body cdv A outer s H E i G z0 B0 hr hp at0 hz
    exact ⟨t, ht, run _ Q (Slo.start al) q⟩
end
end AP

set_option maxHeartbeats 4000000
/-! zip of three lists. -/
namespace AP
open PySem PySem.Spec PyProof.Rows L2 Evl
/-- three lists as they stand at each turn -/
def Itz3 (K : PySem.W.Frag) (a b c : Addr) : It :=
  ⟨fun i H => ∃ (xs ys zs : List V) (x y u : V), SqL K H a xs ∧ SqL K H b ys ∧ SqL K H c zs ∧ xs[i]? = some x ∧ ys[i]? = some y ∧ zs[i]? = some u,
    fun i H v H' => ∃ T x y u, v = .ref T ∧ H T = none ∧ H' = upd H T (.tup [x, y, u]) ∧ (∀ xs, SqL K H a xs → xs[i]? = some x) ∧ (∀ ys, SqL K H b ys → ys[i]? = some y) ∧ ∀ zs, SqL K H c zs → zs[i]? = some u,
    fun i H => ∃ xs ys zs : List V, SqL K H a xs ∧ SqL K H b ys ∧ SqL K H c zs ∧ i ≤ xs.length ∧ i ≤ ys.length ∧ i ≤ zs.length ∧ (i = xs.length ∨ i = ys.length ∨ i = zs.length)⟩
theorem turn_zip3 {P : Program} {w : World} {K : PySem.W.Frag} {elts : List Expr} {kk : Nat} {tpos : Pos} {a b c z TI TO i1 i2 i3 : Addr} (D : ZipSep3 z TI TO i1 i2 i3 [i1, a] [i2, b] [i3, c]) (na : a ≠ i1) (nb : b ≠ i2) (nc : c ≠ i3) :
    Turn P w K (.Tuple elts kk tpos) (Itz3 K a b c) [z, TI, TO, i1, i2, i3] z (fun i h => IsZip h z TI TO .none ∧ IsTupOf3 h TI (.ref i1) (.ref i2) (.ref i3) ∧ (∃ x y u, IsTupOf3 h TO x y u) ∧ h.IsListIter i1 a i ∧ h.IsListIter i2 b i ∧ h.IsListIter i3 c i) where
  mem := by simp
  obj := fun i h st d hd => by
    obtain ⟨hz, hTI, ⟨x, y, u, hTO⟩, ⟨o1, e1, _, d1⟩, ⟨o2, e2, _, d2⟩, ⟨o3, e3, _, d3⟩⟩ := st
    have e' : d = z ∨ d = TI ∨ d = TO ∨ d = i1 ∨ d = i2 ∨ d = i3 := by simpa using hd
    rcases e' with q | q | q | q | q | q
    · rw [q]; exact ⟨_, hz, fun v q => nomatch q⟩
    · rw [q]; exact ⟨_, hTI, fun v q => nomatch q⟩
    · rw [q]; exact ⟨_, hTO, fun v q => nomatch q⟩
    · rw [q]; exact ⟨o1, e1, fun v q => by rw [d1] at q; cases q⟩
    · rw [q]; exact ⟨o2, e2, fun v q => by rw [d2] at q; cases q⟩
    · rw [q]; exact ⟨o3, e3, fun v q => by rw [d3] at q; cases q⟩
  keep := fun i h h' st k => by
    obtain ⟨hz, hTI, ⟨x, y, u, hTO⟩, h1, h2, h3⟩ := st
    exact ⟨k z (by simp) _ hz, k TI (by simp) _ hTI, ⟨x, y, u, k TO (by simp) _ hTO⟩, h1.at fun o q => k i1 (by simp) o q, h2.at fun o q => k i2 (by simp) o q, h3.at fun o q => k i3 (by simp) o q⟩
  item := by
    intro X hP hw hK hc i pins s σ H E I hf st hg
    subst hP hw hK
    obtain ⟨hz, hTI, ⟨x0, y0, u0, hTO⟩, h1, h2, h3⟩ := st
    obtain ⟨xs, ys, zs, x, y, u, hqx, hqy, hqz, hx, hy, hu⟩ := hg
    obtain ⟨its, rv, p, _⟩ := I.list hqx
    obtain ⟨its2, rv2, p2, _⟩ := I.list hqy
    obtain ⟨its3, rv3, p3, _⟩ := I.list hqz
    obtain ⟨v1, hv1, r1⟩ := rv.get hx
    obtain ⟨v2, hv2, r2⟩ := rv2.get hy
    obtain ⟨v3, hv3, r3⟩ := rv3.get hu
    have hzl : z < s.heap.objs.size := Heap.lt_size hz
    have hh : X.A.in1.handled = none := I.ok.hd hc
    have lt1 : i < its.toArray.size := by have := (List.getElem?_eq_some_iff.mp hv1).1; simpa using this
    have lt2 : i < its2.toArray.size := by have := (List.getElem?_eq_some_iff.mp hv2).1; simpa using this
    have lt3 : i < its3.toArray.size := by have := (List.getElem?_eq_some_iff.mp hv3).1; simpa using this
    refine wpAny_pyNext_zipD3_item D (Draws.list hh i1 a na its.toArray) (Draws.list hh i2 b nb its2.toArray) (Draws.list hh i3 c nc its3.toArray) hz hTI hTO ⟨h1, p.isList⟩ ⟨h2, p2.isList⟩ ⟨h3, p3.isList⟩ lt1 lt2 lt3
      fun x1 x2 x3 h' tk y1 y2 y3 z' TO' s1 s2 s3 hT hsz hk => ?_
    have e1 : x1 = v1 := by
      have y1' : its[i]? = some x1 := by simpa using y1
      rw [hv1] at y1'; exact (Option.some.inj y1').symm
    have e2 : x2 = v2 := by
      have y2' : its2[i]? = some x2 := by simpa using y2
      rw [hv2] at y2'; exact (Option.some.inj y2').symm
    have e3 : x3 = v3 := by
      have y3' : its3[i]? = some x3 := by simpa using y3
      rw [hv3] at y3'; exact (Option.some.inj y3').symm
    subst e1 e2 e3
    refine ⟨_, rfl, wpAny_letOwnedTupleGo_zip (s := { s with heap := h', toks := tk }) z' fun h'' z'' sb => ?_⟩
    have hT2 : h''.get? s.heap.objs.size = some { cls := .type "tuple", data := .seq #[x1, x2, x3] } := (sb.2 _ (Nat.ne_of_gt hzl)).trans hT
    have new : ObjOk X.prog X.w (upd H s.heap.objs.size (.tup [x, y, u])) h'' s.heap.objs.size (.tup [x, y, u]) :=
      ⟨by show 3 ≤ sizeLine; decide, [x1, x2, x3], .cons r1 (.cons r2 (.cons r3 .nil)), ⟨_, hT2, rfl, _, rfl⟩⟩
    have I1 : Inv X pins σ (upd H s.heap.objs.size (.tup [x, y, u])) { s with heap := h'', toks := tk } :=
      I.turnedNew (t' := tk) (ch := [z, TI, TO, i1, i2, i3]) (fun d o hb q => (sb.2 d (fun q' => hb (by simp [q']))).trans (hk d o (fun q' => hb (by simp [q'])) (fun q' => hb (by simp [q'])) (fun q' => hb (by simp [q'])) (fun q' => hb (by simp [q'])) (fun q' => hb (by simp [q'])) q)) hf (Nat.le_refl _) new
    refine ⟨.ref s.heap.objs.size, _, I1, rfl, ⟨_, x, y, u, rfl, I.hok.fresh (Nat.le_refl _), rfl, fun l hl => by rw [I.list_inj hl hqx]; exact hx, fun l hl => by rw [I.list_inj hl hqy]; exact hy, fun l hl => by rw [I.list_inj hl hqz]; exact hu⟩, ⟨z'', ?_, ⟨x1, x2, x3, ?_⟩, ?_, ?_, ?_⟩, fun d hdm => ?_⟩
    · exact (sb.2 _ D.TIz).trans (hk _ _ D.TIz D.TITO D.TIi1 D.TIi2 D.TIi3 hTI)
    · exact (sb.2 _ D.TOz).trans TO'
    · exact s1.1.at fun o q => (sb.2 _ (fun e => D.zf1 (by rw [← e]; simp))).trans q
    · exact s2.1.at fun o q => (sb.2 _ (fun e => D.zf2 (by rw [← e]; simp))).trans q
    · exact s3.1.at fun o q => (sb.2 _ (fun e => D.zf3 (by rw [← e]; simp))).trans q
    · have hlt : d < s.heap.objs.size := by
        have e' : d = z ∨ d = TI ∨ d = TO ∨ d = i1 ∨ d = i2 ∨ d = i3 := by simpa using hdm
        rcases e' with q | q | q | q | q | q
        · rw [q]; exact hzl
        · rw [q]; exact Heap.lt_size hTI
        · rw [q]; exact Heap.lt_size hTO
        · rw [q]; obtain ⟨_, e1, _⟩ := h1; exact Heap.lt_size e1
        · rw [q]; obtain ⟨_, e2, _⟩ := h2; exact Heap.lt_size e2
        · rw [q]; obtain ⟨_, e3, _⟩ := h3; exact Heap.lt_size e3
      rw [upd_ne (Nat.ne_of_lt hlt)]
      exact (hf d hdm).1
  done := by
    intro X hP hw hK hc i pins s σ H E I hf st hg
    subst hP hw hK
    obtain ⟨hz, hTI, ⟨x0, y0, u0, hTO⟩, h1, h2, h3⟩ := st
    obtain ⟨xs, ys, zs, hqx, hqy, hqz, g1, g2, g3, hend⟩ := hg
    obtain ⟨its, rv, p, _⟩ := I.list hqx
    obtain ⟨its2, rv2, p2, _⟩ := I.list hqy
    obtain ⟨its3, rv3, p3, _⟩ := I.list hqz
    have l1 := rv.length
    have l2 := rv2.length
    have l3 := rv3.length
    have hh : X.A.in1.handled = none := I.ok.hd hc
    exact wpAny_pyNext_zipD3_end D (Draws.list hh i1 a na its.toArray) (Draws.list hh i2 b nb its2.toArray) (Draws.list hh i3 c nc its3.toArray) hz hTI hTO ⟨h1, p.isList⟩ ⟨h2, p2.isList⟩ ⟨h3, p3.isList⟩ (by simp; omega) (by simp; omega) (by simp; omega) (by simp; omega)
      fun h' tk hk => ⟨rfl, I.turnedL (t' := tk) (ch := [z, TI, TO, i1, i2, i3]) (fun d o hb q =>
        hk d o (fun q' => hb (by simp [q'])) (fun q' => hb (by simp [q'])) (fun q' => hb (by simp [q'])) (fun q' => hb (by simp [q'])) (fun q' => hb (by simp [q'])) q) hf⟩
  self := fun A i s Q E st h => wpAny_pyIter_zip st.1 h
def iZip3 (K : PySem.W.Frag) (ta : TA) : TI := fun σ H R => ta σ H fun vs H1 => ∃ a b c xs ys zs, vs = [.ref a, .ref b, .ref c] ∧ SqL K H1 a xs ∧ SqL K H1 b ys ∧ SqL K H1 c zs ∧ R (Itz3 K a b c) H1
theorem pi_zip3 {X : Cx} {e e2 e3 : Expr} {ta : TA} {p pos tpos : Pos} {elts : List Expr} {kk : Nat} (hg : Gl X "zip") (hm : X.mg "zip" = none) (ha : PA X [e, e2, e3] ta)
    (hs : starEach [e, e2, e3] X.env = (false, eval e X.env) :: starEach [e2, e3] X.env := by rfl) (hpl : (backTo pos (starEach [e2, e3] X.env)).any (·.1) = false := by rfl) :
    PI X (.Tuple elts kk tpos) (.Call (.Name "zip" p) [e, e2, e3] [] pos) (iZip3 X.K ta) := by
  refine ⟨fun pins s σ H R I h => ?_⟩
  refine Call_ (ld_blt I hg hm PyProof.Rows.boot_zip (PyProof.Rows.callWith_type1 (thn (ha.run pos pins s σ H _ I h) fun us s1 ⟨vs, H1, I1, r1, q1⟩ => ?_) hs hpl))
  obtain ⟨a, b, c, xs, ys, zs, ex, hqx, hqy, hqz, q⟩ := q1
  subst ex
  cases r1 with
  | cons r rr =>
    cases rr with
    | cons r' rr =>
      cases rr with
      | cons r'' rr =>
        cases rr
        cases r
        cases r'
        cases r''
        obtain ⟨its, rv, p1, _⟩ := I1.list hqx
        obtain ⟨its2, rv2, p2, _⟩ := I1.list hqy
        obtain ⟨its3, rv3, p3, _⟩ := I1.list hqz
        have la : a < s1.heap.objs.size := p1.lt
        have lb : b < s1.heap.objs.size := p2.lt
        have lc : c < s1.heap.objs.size := p3.lt
        refine zip_begins3 (begins_list a its.toArray) (begins_list b its2.toArray) (begins_list c its3.toArray) p1.isList p2.isList p3.isList fun h' hz hTI hTO h1 h2 h3 hsz hk => wpAny_pyIter_zip hz ?_
        have I2 : Inv X pins σ H1 { s1 with heap := h' } := I1.kept (t' := s1.toks) hk
        have fr : ∀ d, d ∈ [s1.heap.objs.size + 5, s1.heap.objs.size + 3, s1.heap.objs.size + 4, s1.heap.objs.size, s1.heap.objs.size + 1, s1.heap.objs.size + 2] → s1.heap.objs.size ≤ d := fun d hd => by
          have e' : d = s1.heap.objs.size + 5 ∨ d = s1.heap.objs.size + 3 ∨ d = s1.heap.objs.size + 4 ∨ d = s1.heap.objs.size ∨ d = s1.heap.objs.size + 1 ∨ d = s1.heap.objs.size + 2 := by simpa using hd
          rcases e' with z | z | z | z | z | z
          · rw [z]; exact Nat.le_add_right _ _
          · rw [z]; exact Nat.le_add_right _ _
          · rw [z]; exact Nat.le_add_right _ _
          · rw [z]; exact Nat.le_refl _
          · rw [z]; exact Nat.le_add_right _ _
          · rw [z]; exact Nat.le_add_right _ _
        refine ⟨s1.heap.objs.size + 5, [s1.heap.objs.size + 5, s1.heap.objs.size + 3, s1.heap.objs.size + 4, s1.heap.objs.size, s1.heap.objs.size + 1, s1.heap.objs.size + 2], _, _, H1, rfl, I2,
          turn_zip3 (a := a) (b := b) (c := c) (zip_sep3 (fp1 := [a]) (fp2 := [b]) (fp3 := [c]) (by simpa using la) (by simpa using lb) (by simpa using lc)) (Nat.ne_of_lt la) (Nat.ne_of_lt (Nat.lt_succ_of_lt lb)) (Nat.ne_of_lt (Nat.lt_of_lt_of_le lc (Nat.le_add_right _ _))),
          ⟨hz, hTI, ⟨_, _, _, hTO⟩, ⟨_, h1, rfl, rfl⟩, ⟨_, h2, rfl, rfl⟩, ⟨_, h3, rfl, rfl⟩⟩, fun d hd => I1.fpOk (fr d hd) (I1.hok.fresh (fr d hd)), q⟩
section
variable {K : PySem.W.Frag} {G : Option Addr} {c : Nat} {Γ : AP.Ctx} {α β γ : Type} [Py α] [Py β] [Py γ] {B : Hp}
theorem src_three {J : It} {j k l n : Nat} {f f' f'' : Nat → VP} (st : ∀ i, Stays (f i)) (st' : ∀ i, Stays (f' i)) (st'' : ∀ i, Stays (f'' i)) (h1 : ∀ H, Ex B H → J.stop n H) (h2 : ∀ i, i < n → ∀ H, Ex B H → J.go i H)
    (h3 : ∀ i, i < n → ∀ x H H', Ex B H → J.yld i H x H' → ∃ T a b d, x = .ref T ∧ H T = none ∧ H' = upd H T (.tup [a, b, d]) ∧ f i a B ∧ f' i b B ∧ f'' i d B) :
    Src J (gTup K 3 (gCons (gName j) (gCons (gName k) (gCons (gName l) gNil)))) B [j, k, l] n (fun i Γ => ((Γ.set j (some (f i))).set k (some (f' i))).set l (some (f'' i))) :=
  ⟨h1, h2, fun i hi x H H' e y => by
    obtain ⟨T, a, b, d, rfl, nT, rfl, p, p', p''⟩ := h3 i hi x H H' e y
    refine ⟨Ex.new nT, fun σ Γ Bc en eb ec Q q => ⟨T, [a, b, d], rfl, st_of upd_same, rfl, a, _, rfl, b, _, rfl, d, _, rfl, rfl, ?_⟩⟩
    refine q _ (((en.set (st i) (st i _ _ _ eb p)).set (st' i) (st' i _ _ _ eb p')).set (st'' i) (st'' i _ _ _ eb p'')) fun vs hv => ?_
    rw [wipe_set _ l _ vs (hv l (by simp)), wipe_set _ k _ vs (hv k (by simp)), wipe_set _ j _ vs (hv j (by simp))]⟩
theorem ti_zip3 {xs : List α} {ys : List β} {us : List γ} {tr : TA} {j k l : Nat} (h : TyA G c tr Γ [Py.is xs, Py.is ys, Py.is us]) :
    TyI G c (iZip3 K tr) (gTup K 3 (gCons (gName j) (gCons (gName k) (gCons (gName l) gNil)))) Γ [j, k, l] (· = min (min xs.length ys.length) us.length) (fun i Γ => ((Γ.set j (some (itm xs i))).set k (some (itm ys i))).set l (some (itm us i))) := fun z B σ H en s hz R r => by
  refine h z B σ H en s hz _ fun vs z1 B1 H1 al n1 => ?_
  obtain ⟨v, w, u, rfl, hv, hw, hu⟩ := al.three
  obtain ⟨p, as, rfl, e1, e2⟩ := hv
  obtain ⟨p', as', rfl, e1', e2'⟩ := hw
  obtain ⟨p'', as'', rfl, e1'', e2''⟩ := hu
  have l1 := e2.len
  have l2 := e2'.len
  have l3 := e2''.len
  refine ⟨p, p', p'', as, as', as'', rfl, sq_of (n1.at_.ex _ _ e1), sq_of (n1.at_.ex _ _ e1'), sq_of (n1.at_.ex _ _ e1''), r _ _ z1 B1 H1 rfl n1 (src_three itm_st itm_st itm_st (fun H e => ⟨as, as', as'', sq_of (e _ _ e1), sq_of (e _ _ e1'), sq_of (e _ _ e1''), by omega, by omega, by omega, by omega⟩) (fun i hi H e => ?_) fun i hi x' H H' e y => ?_)⟩
  · have lt : i < as.length := by omega
    have lt' : i < as'.length := by omega
    have lt'' : i < as''.length := by omega
    exact ⟨as, as', as'', as[i], as'[i], as''[i], sq_of (e _ _ e1), sq_of (e _ _ e1'), sq_of (e _ _ e1''), List.getElem?_eq_getElem lt, List.getElem?_eq_getElem lt', List.getElem?_eq_getElem lt''⟩
  · obtain ⟨T, x, x2, x3, q1, q2, q3, q4, q5, q6⟩ := y
    exact ⟨T, x, x2, x3, q1, q2, q3, e2.got (q4 as (sq_of (e _ _ e1))), e2'.got (q5 as' (sq_of (e _ _ e1'))), e2''.got (q6 as'' (sq_of (e _ _ e1'')))⟩
end
end AP

set_option maxHeartbeats 4000000
/-! Words of polynomials. -/
namespace AP
open PySem PySem.Spec PyProof.Rows L2 Evl
theorem two_cast' (k : Nat) : ((2 : Int) ^ k) = ((2 ^ k : Nat) : Int) := by norm_cast
/-- x & ((1 << k) - 1), below 0 too -/
theorem mask_any (k : Nat) (x : Int) : Builtin.bitAnd x (2 ^ k - 1) = x % 2 ^ k := by
  by_cases hx : 0 ≤ x
  · exact Bits.bitAnd_mask k hx
  · have hp : 0 < 2 ^ k := Nat.two_pow_pos k
    rw [two_cast']
    have e : Builtin.bitAnd x (((2 ^ k : Nat) : Int) - 1) = (((2 ^ k : Nat) : Int) - 1) - ((((2 ^ k : Nat) : Int) - 1).toNat &&& (Builtin.bitNot x).toNat : Nat) := by
      unfold Builtin.bitAnd
      rw [decide_eq_false (by omega), decide_eq_true (by omega)]
    rw [e, show (((2 ^ k : Nat) : Int) - 1).toNat = 2 ^ k - 1 by omega, Nat.and_comm, Nat.and_two_pow_sub_one_eq_mod, show Builtin.bitNot x = -x - 1 from rfl]
    have h1 := Nat.mod_add_div (-x - 1).toNat (2 ^ k)
    have h2 := Nat.mod_lt (-x - 1).toNat hp
    generalize (-x - 1).toNat % 2 ^ k = r at h1 h2 ⊢
    generalize (-x - 1).toNat / 2 ^ k = d at h1
    generalize hm : 2 ^ k = m at h1 h2 hp ⊢
    have ex : x = ((m : Int) - 1 - r) + (m : Int) * (-(d : Int) - 1) := by
      have : ((r + m * d : Nat) : Int) = -x - 1 := by rw [h1]; omega
      rw [Int.natCast_add, Int.natCast_mul] at this
      rw [Int.mul_sub, Int.mul_neg, Int.mul_one]
      omega
    conv => rhs; rw [ex, Int.add_mul_emod_self_left]
    rw [Int.emod_eq_of_lt (by omega) (by omega)]
/-- a polynomial's worth -/
def polyS : List Int → Int → Int
  | [], _ => 0
  | a :: r, x => a + x * polyS r x
theorem polyS_snoc (x a : Int) : ∀ l : List Int, polyS (l ++ [a]) x = polyS l x + a * x ^ l.length
  | [] => by simp [polyS]
  | b :: l => by
    rw [List.cons_append]
    unfold polyS
    rw [polyS_snoc x a l, List.length_cons, Int.pow_succ, Int.mul_add, ← Int.mul_assoc, Int.mul_comm x a, Int.mul_assoc, Int.mul_comm x (x ^ l.length)]
    omega
def wholesB : Dat → Bool
  | .lst ds => ds.all Dat.whole
  | _ => false
def coOk (cs : List Int) : Prop := cs.length ≤ 1000 ∧ ∀ c ∈ cs, c.natAbs < 2 ^ 250
def wsOk (w : Int) (ps ws : List Int) : Prop := wordsAtB w ps.length (.lst (ws.map Dat.int)) = true ∧ ws.length ≤ 30000
def partsL (ps ws os : List Int) : List Int := ((List.range ps.length).filter fun k => !decide (ws.getD k 0 = os.getD k 0)).map fun k => ps.getD k 0
def cAreWholes : Con Dat Bool := ⟨fun d => [Py.is d], fun d _ => d.small, fun _ => 0, fun d b => b = wholesB d⟩
def cNeedCoeffs : Con (List Int) Unit := ⟨fun ns => [Py.is ns], fun ns _ => ns.length ≤ 30000, fun _ => 0, fun _ _ => True⟩
def cWorth : Con (Int × List Int × Int) Int := ⟨fun i => [Py.is i.1, Py.is i.2.1, Py.is i.2.2], fun i _ => wOk i.1 ∧ coOk i.2.1 ∧ i.2.2.natAbs < 2 ^ 250, fun _ => 0, fun i n => n = polyS i.2.1 i.2.2 % 2 ^ i.1.toNat⟩
def cWordsOf : Con (Int × List Int × List Int) (List Int) := ⟨fun i => [Py.is i.1, Py.is i.2.1, Py.is i.2.2], fun i _ => wOk i.1 ∧ coOk i.2.1 ∧ Places i.1 i.2.2, fun _ => 0, fun i ws => ws = i.2.2.map fun p => polyS i.2.1 p % 2 ^ i.1.toNat⟩
def cNeedWords : Con (Int × List Int × List Int) Unit := ⟨fun i => [Py.is i.1, Py.is i.2.1, Py.is i.2.2], fun i _ => wOk i.1 ∧ wsOk i.1 i.2.1 i.2.2, fun _ => 0, fun _ _ => True⟩
def cParting : Con (Int × List Int × List Int × List Int) (List Int) := ⟨fun i => [Py.is i.1, Py.is i.2.1, Py.is i.2.2.1, Py.is i.2.2.2], fun i _ => wOk i.1 ∧ Places i.1 i.2.1 ∧ wsOk i.1 i.2.1 i.2.2.1 ∧ wsOk i.1 i.2.1 i.2.2.2, fun _ => 0, fun i r => r = partsL i.2.1 i.2.2.1 i.2.2.2⟩
theorem wholes_ints (ns : List Int) : wholesB (.lst (ns.map Dat.int)) = true := by
  show (ns.map Dat.int).all Dat.whole = true
  rw [List.all_map]
  exact List.all_eq_true.mpr fun _ _ => rfl
theorem wsOk.len {w : Int} {ps ws : List Int} (h : wsOk w ps ws) : ws.length = ps.length := by
  have e : ((ws.map Dat.int).all (Dat.word w) && decide ((ws.map Dat.int).length = ps.length)) = true := h.1
  rw [Bool.and_eq_true] at e
  have := of_decide_eq_true e.2
  rwa [List.length_map] at this
theorem Places.range {w p : Int} {ps : List Int} (hw : wOk w) (h : Places w ps) (hp : p ∈ ps) : 0 ≤ p ∧ p.natAbs < 2 ^ 250 := by
  obtain ⟨h0, h1⟩ := h.nodup.2 p hp
  have hw : 1 ≤ w ∧ w ≤ 64 := hw
  have h1 : p ≤ 2 ^ w.toNat - 1 := h1
  rw [two_cast'] at h1
  have := Nat.pow_le_pow_right (n := 2) (by decide) (show w.toNat ≤ 64 by omega)
  refine ⟨h0, ?_⟩
  have : p.natAbs < 2 ^ 64 := by omega
  exact Nat.lt_trans this (by decide)
section
variable {G : Option Addr} {c0 c1 c2 c3 : Nat} {t0 t1 t2 t3 : TE} {Γ : AP.Ctx} {g : Addr}
theorem y_areWholes {d : Dat} {E : XK} (h0 : Ty G c0 t0 Γ (· = d)) (p : d.small) : Ty G (c0 + 0 + 0) (tCall cAreWholes.sp [] E (tCons t0 tNil)) Γ (· = wholesB d) := ty_call (C := cAreWholes) d (ta_cons h0 ta_nil) p
theorem y_needCoeffs {ns : List Int} {E : XK} (h0 : Ty G c0 t0 Γ (· = ns)) (p : ns.length ≤ 30000) : Ty G (c0 + 0 + 0) (tCall cNeedCoeffs.sp [] E (tCons t0 tNil)) Γ (fun _ : Unit => True) := ty_call (C := cNeedCoeffs) ns (ta_cons h0 ta_nil) p
theorem y_worth {w x : Int} {cs : List Int} {E : XK} (h0 : Ty G c0 t0 Γ (· = w)) (h1 : Ty G c1 t1 Γ (· = cs)) (h2 : Ty G c2 t2 Γ (· = x)) (p : wOk w ∧ coOk cs ∧ x.natAbs < 2 ^ 250) : Ty G (c0 + (c1 + (c2 + 0)) + 0) (tCall cWorth.sp [] E (tCons t0 (tCons t1 (tCons t2 tNil)))) Γ (· = polyS cs x % 2 ^ w.toNat) := ty_call (C := cWorth) (w, cs, x) (ta_cons h0 (ta_cons h1 (ta_cons h2 ta_nil))) p
theorem k_worth {w x : Int} {cs : List Int} {E : XK} (h0 : Ty G c0 t0 Γ (· = w)) (h1 : Ty G c1 t1 Γ (· = cs)) (h2 : Ty G c2 t2 Γ (· = x)) (p : wOk w ∧ coOk cs ∧ x.natAbs < 2 ^ 250) : Ty G (0 + (c2 + (c1 + (c0 + 0))) + 0) (tCallK cWorth.sp (fun _ ks => ks.reverse) E tNil (tCons t2 (tCons t1 (tCons t0 tNil)))) Γ (· = polyS cs x % 2 ^ w.toNat) := ty_callR (C := cWorth) (w, cs, x) (ta_cons h2 (ta_cons h1 (ta_cons h0 ta_nil))) p
theorem y_wordsOf {w : Int} {cs ps : List Int} {E : XK} (h0 : Ty G c0 t0 Γ (· = w)) (h1 : Ty G c1 t1 Γ (· = cs)) (h2 : Ty G c2 t2 Γ (· = ps)) (p : wOk w ∧ coOk cs ∧ Places w ps) : Ty G (c0 + (c1 + (c2 + 0)) + 0) (tCall cWordsOf.sp [] E (tCons t0 (tCons t1 (tCons t2 tNil)))) Γ (· = ps.map fun p => polyS cs p % 2 ^ w.toNat) := ty_call (C := cWordsOf) (w, cs, ps) (ta_cons h0 (ta_cons h1 (ta_cons h2 ta_nil))) p
theorem y_needWords {w : Int} {ps ws : List Int} {E : XK} (h0 : Ty G c0 t0 Γ (· = w)) (h1 : Ty G c1 t1 Γ (· = ps)) (h2 : Ty G c2 t2 Γ (· = ws)) (p : wOk w ∧ wsOk w ps ws) : Ty G (c0 + (c1 + (c2 + 0)) + 0) (tCall cNeedWords.sp [] E (tCons t0 (tCons t1 (tCons t2 tNil)))) Γ (fun _ : Unit => True) := ty_call (C := cNeedWords) (w, ps, ws) (ta_cons h0 (ta_cons h1 (ta_cons h2 ta_nil))) p
theorem y_parting {w : Int} {ps ws os : List Int} {E : XK} (h0 : Ty G c0 t0 Γ (· = w)) (h1 : Ty G c1 t1 Γ (· = ps)) (h2 : Ty G c2 t2 Γ (· = ws)) (h3 : Ty G c3 t3 Γ (· = os)) (p : wOk w ∧ Places w ps ∧ wsOk w ps ws ∧ wsOk w ps os) : Ty G (c0 + (c1 + (c2 + (c3 + 0))) + 0) (tCall cParting.sp [] E (tCons t0 (tCons t1 (tCons t2 (tCons t3 tNil))))) Γ (· = partsL ps ws os) := ty_call (C := cParting) (w, ps, ws, os) (ta_cons h0 (ta_cons h1 (ta_cons h2 (ta_cons h3 ta_nil)))) p
end
end AP

set_option maxHeartbeats 4000000
/-! The numbers of places, by halves. -/
namespace AP
/-- a run that always takes one of the least -/
inductive Gr : KC → KC → Prop
  | nil : Gr [] []
  | cons {kvs l : KC} {x : Int × Int} : x ∈ kvs → (∀ y ∈ kvs, x.2 ≤ y.2) → Gr (behind kvs x.1) l → Gr kvs (x :: l)
theorem orun_gr : ∀ (n : Nat) (kvs : KC), kvs.length = n → (kvs.map (·.1)).Nodup → Gr kvs (orun n kvs)
  | 0, [], _, _ => .nil
  | n + 1, kvs, hl, nd => by
    have ne : kvs ≠ [] := fun e => by rw [e] at hl; cases hl
    obtain ⟨x, h1, h2, h3, _⟩ := pick_some ne
    have bl := behind_len nd (List.mem_map.mpr ⟨x, h2, rfl⟩)
    rw [← hl, orun_cons nd h1 h2]
    exact .cons h2 h3 (orun_gr _ _ rfl (behind_nodup nd))
theorem Gr.len {kvs l : KC} (h : Gr kvs l) (nd : (kvs.map (·.1)).Nodup) : l.length = kvs.length := by
  induction h with
  | nil => rfl
  | cons h1 h2 _ ih =>
    rw [List.length_cons, ih (behind_nodup nd)]
    exact behind_len nd (List.mem_map.mpr ⟨_, h1, rfl⟩)
theorem behind_mem {kvs : KC} {t : Int} {y : Int × Int} (h : y ∈ behind kvs t) : ∃ z ∈ kvs, y.1 = z.1 ∧ z.2 ≤ y.2 := by
  obtain ⟨z, hz, rfl⟩ := List.mem_map.mp h
  exact ⟨z, (List.mem_filter.mp hz).1, rfl, by have := twos_nonneg (z.1 - t); show z.2 ≤ z.2 + twos (z.1 - t); omega⟩
theorem Gr.ge {kvs l : KC} (h : Gr kvs l) : ∀ {m : Int}, (∀ y ∈ kvs, m ≤ y.2) → ∀ y ∈ l, m ≤ y.2 := by
  induction h with
  | nil => intro m _ y hy; cases hy
  | cons h1 h2 _ ih =>
    intro m hm y hy
    rcases List.mem_cons.mp hy with rfl | hy
    · exact hm _ h1
    · refine ih (fun w hw => ?_) y hy
      obtain ⟨z, hz, _, le⟩ := behind_mem hw
      exact Int.le_trans (hm z hz) le
/-- the numbers never fall -/
theorem Gr.asc {kvs l : KC} (h : Gr kvs l) : (l.map (·.2)).Pairwise (· ≤ ·) := by
  induction h with
  | nil => exact .nil
  | cons h1 h2 h3 ih =>
    rw [List.map_cons]
    refine .cons (fun b hb => ?_) ih
    obtain ⟨y, hy, rfl⟩ := List.mem_map.mp hb
    refine h3.ge (fun w hw => ?_) y hy
    obtain ⟨z, hz, _, le⟩ := behind_mem hw
    exact Int.le_trans (h2 z hz) le
/-- the places of one parity, halved, t of them taken already -/
def half (r t : Int) (kvs : KC) : KC := (kvs.filter fun p => decide (p.1 % 2 = r)).map fun p => (p.1 / 2, p.2 - t)
def up : Int → List Int → List Int
  | _, [] => []
  | t, x :: r => (x + t) :: up (t + 1) r
theorem half_inj {a b : Int} (h : a % 2 = b % 2) (e : a / 2 = b / 2) : a = b := by omega
theorem twos_same {a b : Int} (h : a % 2 = b % 2) (ne : a ≠ b) : twos (a - b) = 1 + twos (a / 2 - b / 2) := by
  rw [twos_even (by omega) (by omega), show (a - b) / 2 = a / 2 - b / 2 by omega]
  omega
theorem twos_other {a b : Int} (h : a % 2 ≠ b % 2) : twos (a - b) = 0 := twos_odd (by omega)
/-- behind one of the same parity -/
theorem half_behind_same {kvs : KC} {r t : Int} {a : Int} (ha : a % 2 = r) : half r (t + 1) (behind kvs a) = behind (half r t kvs) (a / 2) := by
  unfold half behind
  rw [List.filter_map, List.filter_map, List.map_map, List.map_map, List.filter_filter, List.filter_filter]
  induction kvs with
  | nil => rfl
  | cons p kvs ih =>
    by_cases hp : p.1 % 2 = r
    · by_cases e : p.1 = a
      · rw [List.filter_cons, List.filter_cons, if_neg (by simp [e]), if_neg (by simp [e])]
        exact ih
      · have e2 : ¬ p.1 / 2 = a / 2 := fun q => e (half_inj (by omega) q)
        rw [List.filter_cons, List.filter_cons, if_pos (by simp [e, hp]), if_pos (by simp [e2, hp]), List.map_cons, List.map_cons, ih]
        congr 1
        show ((p.1 / 2, p.2 + twos (p.1 - a) - (t + 1)) : Int × Int) = (p.1 / 2, p.2 - t + twos (p.1 / 2 - a / 2))
        rw [twos_same (by omega) e]
        congr 1
        omega
    · rw [List.filter_cons, List.filter_cons, if_neg (by simp [hp]), if_neg (by simp [hp])]
      exact ih
/-- behind one of the other parity -/
theorem half_behind_other {kvs : KC} {r t : Int} {a : Int} (ha : a % 2 ≠ r) : half r t (behind kvs a) = half r t kvs := by
  unfold half behind
  rw [List.filter_map, List.map_map, List.filter_filter]
  induction kvs with
  | nil => rfl
  | cons p kvs ih =>
    by_cases hp : p.1 % 2 = r
    · have e : ¬ p.1 = a := fun q => ha (by rw [← q]; exact hp)
      rw [List.filter_cons, List.filter_cons, if_pos (by simp [e, hp]), if_pos (by simp [hp]), List.map_cons, List.map_cons, ih]
      congr 1
      show ((p.1 / 2, p.2 + twos (p.1 - a) - t) : Int × Int) = (p.1 / 2, p.2 - t)
      rw [twos_other (by omega), Int.add_zero]
    · rw [List.filter_cons, List.filter_cons, if_neg (by simp [hp]), if_neg (by simp [hp])]
      exact ih
/-- a run is a run of either half, one among the other -/
theorem Gr.halves {kvs l : KC} (h : Gr kvs l) : ∀ t u : Int, ∃ lE lO, Gr (half 0 t kvs) lE ∧ Gr (half 1 u kvs) lO ∧ (l.map (·.2)).Perm (up t (lE.map (·.2)) ++ up u (lO.map (·.2))) := by
  induction h with
  | nil => exact fun t u => ⟨[], [], .nil, .nil, .nil⟩
  | @cons kvs l x h1 h2 h3 ih =>
    intro t u
    rcases Int.emod_two_eq x.1 with e | e
    · obtain ⟨lE, lO, g1, g2, p⟩ := ih (t + 1) u
      rw [half_behind_same e] at g1
      rw [half_behind_other (by omega)] at g2
      refine ⟨(x.1 / 2, x.2 - t) :: lE, lO, .cons (List.mem_map.mpr ⟨x, List.mem_filter.mpr ⟨h1, by simp [e]⟩, rfl⟩) (fun y hy => ?_) g1, g2, ?_⟩
      · obtain ⟨z, hz, rfl⟩ := List.mem_map.mp hy
        have := h2 z (List.mem_filter.mp hz).1
        show x.2 - t ≤ z.2 - t
        omega
      · rw [List.map_cons, List.map_cons]
        show (x.2 :: l.map (·.2)).Perm ((x.2 - t + t) :: up (t + 1) (lE.map (·.2)) ++ up u (lO.map (·.2)))
        rw [show x.2 - t + t = x.2 by omega]
        exact p.cons x.2
    · obtain ⟨lE, lO, g1, g2, p⟩ := ih t (u + 1)
      rw [half_behind_other (by omega)] at g1
      rw [half_behind_same e] at g2
      refine ⟨lE, (x.1 / 2, x.2 - u) :: lO, g1, .cons (List.mem_map.mpr ⟨x, List.mem_filter.mpr ⟨h1, by simp [e]⟩, rfl⟩) (fun y hy => ?_) g2, ?_⟩
      · obtain ⟨z, hz, rfl⟩ := List.mem_map.mp hy
        have := h2 z (List.mem_filter.mp hz).1
        show x.2 - u ≤ z.2 - u
        omega
      · rw [List.map_cons, List.map_cons]
        show (x.2 :: l.map (·.2)).Perm (up t (lE.map (·.2)) ++ (x.2 - u + u) :: up (u + 1) (lO.map (·.2)))
        rw [show x.2 - u + u = x.2 by omega]
        exact (p.cons x.2).trans List.perm_middle.symm
def zeros (ps : List Int) : KC := ps.map fun p => (p, 0)
def evens (ps : List Int) : List Int := (ps.filter fun p => decide (p % 2 = 0)).map (· / 2)
def odds (ps : List Int) : List Int := (ps.filter fun p => decide (p % 2 = 1)).map (· / 2)
theorem half_zeros0 (ps : List Int) : half 0 0 (zeros ps) = zeros (evens ps) := by
  unfold half zeros evens
  rw [List.filter_map, List.map_map, List.map_map]
  rfl
theorem half_zeros1 (ps : List Int) : half 1 0 (zeros ps) = zeros (odds ps) := by
  unfold half zeros odds
  rw [List.filter_map, List.map_map, List.map_map]
  rfl
/-- the numbers, by halves -/
def numR : Nat → List Int → List Int
  | 0, ps => ps.map fun _ => 0
  | w + 1, ps => (up 0 (numR w (evens ps)) ++ up 0 (numR w (odds ps))).mergeSort (fun a b => decide (a ≤ b))
theorem sort_asc (l : List Int) : (l.mergeSort fun a b => decide (a ≤ b)).Pairwise (· ≤ ·) := by
  have := List.pairwise_mergeSort (le := fun a b : Int => decide (a ≤ b)) (fun a b c h1 h2 => by simp at *; omega) (fun a b => by simp; omega) l
  exact this.imp fun h => by simpa using h
theorem asc_unique : ∀ {l m : List Int}, l.Pairwise (· ≤ ·) → m.Pairwise (· ≤ ·) → l.Perm m → l = m
  | [], m, _, _, p => by rw [List.nil_perm.mp p]
  | a :: l, [], _, _, p => by cases List.perm_nil.mp p
  | a :: l, b :: m, h1, h2, p => by
    have h1' := List.pairwise_cons.mp h1
    have h2' := List.pairwise_cons.mp h2
    have ab : a = b := by
      have ha : a ∈ b :: m := p.mem_iff.mp List.mem_cons_self
      have hb : b ∈ a :: l := p.mem_iff.mpr List.mem_cons_self
      rcases List.mem_cons.mp ha with e | ha
      · exact e
      · rcases List.mem_cons.mp hb with e | hb
        · exact e.symm
        · have := h1'.1 b hb
          have := h2'.1 a ha
          omega
    subst ab
    rw [asc_unique h1'.2 h2'.2 ((List.perm_cons a).mp p)]
theorem evens_nd {ps : List Int} (nd : ps.Nodup) : (evens ps).Nodup := by
  unfold evens
  refine List.Pairwise.map _ (R := fun a b : Int => a ≠ b ∧ a % 2 = 0 ∧ b % 2 = 0) (fun a b h e => ?_) ?_
  · exact h.1 (half_inj (by omega) e)
  · refine List.Pairwise.filter _ ?_ |>.imp_of_mem fun {a b} ha hb h => ⟨h, by simpa using (List.mem_filter.mp ha).2, by simpa using (List.mem_filter.mp hb).2⟩
    exact nd
theorem odds_nd {ps : List Int} (nd : ps.Nodup) : (odds ps).Nodup := by
  unfold odds
  refine List.Pairwise.map _ (R := fun a b : Int => a ≠ b ∧ a % 2 = 1 ∧ b % 2 = 1) (fun a b h e => ?_) ?_
  · exact h.1 (half_inj (by omega) e)
  · refine List.Pairwise.filter _ ?_ |>.imp_of_mem fun {a b} ha hb h => ⟨h, by simpa using (List.mem_filter.mp ha).2, by simpa using (List.mem_filter.mp hb).2⟩
    exact nd
def Within (w : Nat) (ps : List Int) : Prop := ∀ p ∈ ps, 0 ≤ p ∧ p < 2 ^ w
theorem Within.evens {w : Nat} {ps : List Int} (h : Within (w + 1) ps) : Within w (evens ps) := fun p hp => by
  obtain ⟨q, hq, rfl⟩ := List.mem_map.mp hp
  have := h q (List.mem_filter.mp hq).1
  rw [Int.pow_succ] at this
  omega
theorem Within.odds {w : Nat} {ps : List Int} (h : Within (w + 1) ps) : Within w (odds ps) := fun p hp => by
  obtain ⟨q, hq, rfl⟩ := List.mem_map.mp hp
  have := h q (List.mem_filter.mp hq).1
  rw [Int.pow_succ] at this
  omega
theorem zeros_keys (ps : List Int) : (zeros ps).map (·.1) = ps := by
  unfold zeros
  rw [List.map_map]
  exact List.map_id _
/-- whichever of the least is taken: the numbers are those told by halves -/
theorem gr_num : ∀ (w : Nat) {ps : List Int} {l : KC}, ps.Nodup → Within w ps → Gr (zeros ps) l → l.map (·.2) = numR w ps
  | 0, ps, l, nd, hw, h => by
    have one : ps.length ≤ 1 := by
      match ps, nd, hw with
      | [], _, _ => exact Nat.zero_le _
      | [_], _, _ => exact Nat.le_refl _
      | a :: b :: r, nd, hw =>
        have ha := hw a (by simp)
        have hb := hw b (by simp)
        have ne : a ≠ b := (List.pairwise_cons.mp nd).1 b (by simp)
        simp at ha hb
        omega
    match ps, one, h with
    | [], _, h =>
      cases h with
      | nil => rfl
      | cons h1 _ _ => cases h1
    | [a], _, h =>
      cases h with
      | cons h1 _ h3 =>
        have e : _ = (a, (0 : Int)) := List.mem_singleton.mp h1
        subst e
        have : behind (zeros [a]) a = [] := by
          unfold behind zeros
          simp
        rw [this] at h3
        cases h3 with
        | nil => rfl
        | cons h1 _ _ => cases h1
  | w + 1, ps, l, nd, hw, h => by
    obtain ⟨lE, lO, g1, g2, p⟩ := h.halves 0 0
    rw [half_zeros0] at g1
    rw [half_zeros1] at g2
    rw [gr_num w (evens_nd nd) hw.evens g1, gr_num w (odds_nd nd) hw.odds g2] at p
    exact asc_unique h.asc (sort_asc _) (p.trans (List.mergeSort_perm _ _).symm)
theorem run0_gr {ps : List Int} (nd : ps.Nodup) : Gr (zeros ps) (run0 ps) := by
  unfold run0
  have := orun_gr ps.length (zeros ps) (by unfold zeros; rw [List.length_map]) (by rw [zeros_keys]; exact nd)
  exact this
theorem numbers_num {w : Nat} {ps : List Int} (nd : ps.Nodup) (hw : Within w ps) : numbersOf ps = numR w ps := gr_num w nd hw (run0_gr nd)
theorem numbers_len {ps : List Int} (nd : ps.Nodup) : (numbersOf ps).length = ps.length := by
  unfold numbersOf
  rw [List.length_map, (run0_gr nd).len (by rw [zeros_keys]; exact nd)]
  unfold zeros
  rw [List.length_map]
theorem numbers_asc {ps : List Int} (nd : ps.Nodup) : (numbersOf ps).Pairwise (· ≤ ·) := (run0_gr nd).asc
end AP

set_option maxHeartbeats 4000000
/-! The least twos of all differences: that of the first numbers. -/
namespace AP
/-- the twos of the differences to one -/
def twosTo (x : Int) : List Int → Int
  | [] => 0
  | y :: r => twos (x - y) + twosTo x r
/-- the twos of all differences -/
def pairs : List Int → Int
  | [] => 0
  | x :: r => twosTo x r + pairs r
theorem mod_two (x : Int) : x % 2 = 0 ∨ x % 2 = 1 := by omega
theorem twos_sub (a b : Int) : twos (a - b) = twos (b - a) := by rw [← twos_neg, Int.neg_sub]
theorem twosTo_nonneg (x : Int) : ∀ l, 0 ≤ twosTo x l
  | [] => Int.le_refl _
  | y :: r => by have := twosTo_nonneg x r; have := twos_nonneg (x - y); unfold twosTo; omega
theorem pairs_nonneg : ∀ l, 0 ≤ pairs l
  | [] => Int.le_refl _
  | y :: r => by have := twosTo_nonneg y r; have := pairs_nonneg r; unfold pairs; omega
theorem twosTo_perm {x : Int} {l m : List Int} (p : l.Perm m) : twosTo x l = twosTo x m := by
  induction p with
  | nil => rfl
  | cons a _ ih => unfold twosTo; rw [ih]
  | swap a b l => simp only [twosTo]; omega
  | trans _ _ h1 h2 => rw [h1, h2]
theorem pairs_perm {l m : List Int} (p : l.Perm m) : pairs l = pairs m := by
  induction p with
  | nil => rfl
  | cons a p ih => unfold pairs; rw [ih, twosTo_perm p]
  | swap a b l => simp only [pairs, twosTo]; have := twos_sub a b; omega
  | trans _ _ h1 h2 => rw [h1, h2]
theorem twosTo_snoc (x a : Int) : ∀ l, twosTo x (l ++ [a]) = twosTo x l + twos (x - a)
  | [] => by simp [twosTo]
  | y :: r => by rw [List.cons_append]; unfold twosTo; rw [twosTo_snoc x a r]; omega
theorem pairs_snoc (a : Int) : ∀ l, pairs (l ++ [a]) = pairs l + twosTo a l
  | [] => by simp [pairs, twosTo]
  | y :: r => by rw [List.cons_append]; simp only [pairs, twosTo]; rw [pairs_snoc a r, twosTo_snoc, twos_sub y a]; omega
def tri : Nat → Int
  | 0 => 0
  | n + 1 => tri n + n
theorem evens_cons0 {x : Int} {r : List Int} (h : x % 2 = 0) : evens (x :: r) = x / 2 :: evens r := by unfold evens; rw [List.filter_cons_of_pos (by simpa using h), List.map_cons]
theorem evens_cons1 {x : Int} {r : List Int} (h : x % 2 = 1) : evens (x :: r) = evens r := by unfold evens; rw [List.filter_cons_of_neg (by simp; omega)]
theorem odds_cons1 {x : Int} {r : List Int} (h : x % 2 = 1) : odds (x :: r) = x / 2 :: odds r := by unfold odds; rw [List.filter_cons_of_pos (by simpa using h), List.map_cons]
theorem odds_cons0 {x : Int} {r : List Int} (h : x % 2 = 0) : odds (x :: r) = odds r := by unfold odds; rw [List.filter_cons_of_neg (by simp; omega)]
theorem twosTo_even {x : Int} (h : x % 2 = 0) : ∀ {r : List Int}, x ∉ r → twosTo x r = twosTo (x / 2) (evens r) + (evens r).length
  | [], _ => rfl
  | y :: r, hn => by
    have hy : x ≠ y := fun e => hn (by rw [e]; exact List.mem_cons_self)
    have ih := twosTo_even h (r := r) fun m => hn (List.mem_cons_of_mem _ m)
    rcases mod_two y with e | e
    · rw [evens_cons0 e]
      simp only [twosTo, List.length_cons]
      rw [ih, twos_same (by omega) hy]
      omega
    · rw [evens_cons1 e]
      rw [show twosTo x (y :: r) = twos (x - y) + twosTo x r from rfl, ih, twos_other (by omega)]
      omega
theorem twosTo_odd {x : Int} (h : x % 2 = 1) : ∀ {r : List Int}, x ∉ r → twosTo x r = twosTo (x / 2) (odds r) + (odds r).length
  | [], _ => rfl
  | y :: r, hn => by
    have hy : x ≠ y := fun e => hn (by rw [e]; exact List.mem_cons_self)
    have ih := twosTo_odd h (r := r) fun m => hn (List.mem_cons_of_mem _ m)
    rcases mod_two y with e | e
    · rw [odds_cons0 e]
      rw [show twosTo x (y :: r) = twos (x - y) + twosTo x r from rfl, ih, twos_other (by omega)]
      omega
    · rw [odds_cons1 e]
      simp only [twosTo, List.length_cons]
      rw [ih, twos_same (by omega) hy]
      omega
theorem pairs_halves : ∀ {S : List Int}, S.Nodup → pairs S = (pairs (evens S) + tri (evens S).length) + (pairs (odds S) + tri (odds S).length)
  | [], _ => rfl
  | x :: r, nd => by
    have nd' := List.nodup_cons.mp nd
    have ih := pairs_halves nd'.2
    rcases mod_two x with e | e
    · rw [evens_cons0 e, odds_cons0 e, show pairs (x :: r) = twosTo x r + pairs r from rfl, ih, twosTo_even e nd'.1]
      simp only [pairs, List.length_cons, tri]
      omega
    · rw [evens_cons1 e, odds_cons1 e, show pairs (x :: r) = twosTo x r + pairs r from rfl, ih, twosTo_odd e nd'.1]
      simp only [pairs, List.length_cons, tri]
      omega
theorem halves_len : ∀ ps : List Int, (evens ps).length + (odds ps).length = ps.length
  | [] => rfl
  | x :: r => by
    have ih := halves_len r
    rcases mod_two x with e | e
    · rw [evens_cons0 e, odds_cons0 e, List.length_cons, List.length_cons]; omega
    · rw [evens_cons1 e, odds_cons1 e, List.length_cons, List.length_cons]; omega
theorem up_len : ∀ (t : Int) (l : List Int), (up t l).length = l.length
  | _, [] => rfl
  | t, x :: r => by unfold up; rw [List.length_cons, List.length_cons, up_len]
theorem up_take : ∀ (t : Int) (n : Nat) (l : List Int), (up t l).take n = up t (l.take n)
  | _, 0, _ => by simp [up]
  | _, _ + 1, [] => by simp [up]
  | t, n + 1, x :: r => by rw [List.take_succ_cons]; unfold up; rw [List.take_succ_cons, up_take]
theorem up_sum : ∀ (t : Int) (l : List Int), (up t l).sum = l.sum + t * l.length + tri l.length
  | t, [] => by simp [up, tri]
  | t, x :: r => by
    unfold up
    rw [List.sum_cons, List.sum_cons, up_sum, List.length_cons]
    simp only [tri]
    rw [Int.natCast_add, Int.mul_add, Int.add_mul]
    omega
theorem numR_len : ∀ (w : Nat) (ps : List Int), (numR w ps).length = ps.length
  | 0, ps => by unfold numR; rw [List.length_map]
  | w + 1, ps => by
    unfold numR
    rw [List.length_mergeSort, List.length_append, up_len, up_len, numR_len, numR_len, halves_len]
theorem sum_perm {l m : List Int} (p : l.Perm m) : l.sum = m.sum := by
  induction p with
  | nil => rfl
  | cons a _ ih => rw [List.sum_cons, List.sum_cons, ih]
  | swap a b l => simp only [List.sum_cons]; omega
  | trans _ _ h1 h2 => rw [h1, h2]
theorem take_shift : ∀ {a : Int} {l : List Int}, (a :: l).Pairwise (· ≤ ·) → ∀ n, n ≤ l.length → ((a :: l).take n).sum ≤ (l.take n).sum
  | a, l, _, 0, _ => by simp
  | a, [], _, n + 1, h => by simp at h
  | a, b :: l, hp, n + 1, h => by
    have hp' := List.pairwise_cons.mp hp
    have ih := take_shift hp'.2 n (by simpa using h)
    have := hp'.1 b List.mem_cons_self
    rw [List.take_succ_cons, List.take_succ_cons, List.sum_cons, List.sum_cons]
    omega
/-- the first of an ascending list have the least sum -/
theorem least_sum : ∀ {L T R : List Int}, L.Pairwise (· ≤ ·) → L.Perm (T ++ R) → (L.take T.length).sum ≤ T.sum
  | [], T, R, _, p => by
    have := List.nil_perm.mp p
    have : T = [] := (List.append_eq_nil_iff.mp this).1
    subst this
    simp
  | a :: l, T, R, hp, p => by
    have hp' := List.pairwise_cons.mp hp
    rcases List.mem_append.mp (p.mem_iff.mp List.mem_cons_self) with h | h
    · have q := List.perm_cons_erase h
      have p' : l.Perm (T.erase a ++ R) := (List.perm_cons a).mp (p.trans (q.append_right R))
      have ih := least_sum hp'.2 p'
      have e : T.length = (T.erase a).length + 1 := q.length_eq
      rw [e, List.take_succ_cons, List.sum_cons, sum_perm q, List.sum_cons]
      omega
    · have q := List.perm_cons_erase h
      have p' : l.Perm (T ++ R.erase a) := (List.perm_cons a).mp (p.trans ((q.append_left T).trans List.perm_middle))
      have ih := least_sum hp'.2 p'
      have := take_shift hp T.length (by rw [p'.length_eq, List.length_append]; omega)
      omega
theorem zeros_sum : ∀ (ps : List Int) (n : Nat), ((ps.map fun _ => (0 : Int)).take n).sum = 0
  | _, 0 => by simp
  | [], _ + 1 => by simp
  | _ :: r, n + 1 => by rw [List.map_cons, List.take_succ_cons, List.sum_cons, zeros_sum r n]; rfl
/-- no lot of places has fewer twos than the first numbers together -/
theorem twos_low : ∀ (w : Nat) {ps S : List Int}, ps.Nodup → Within w ps → S.Sublist ps → ((numR w ps).take S.length).sum ≤ pairs S
  | 0, ps, S, _, _, _ => by
    unfold numR
    rw [zeros_sum]
    exact pairs_nonneg S
  | w + 1, ps, S, nd, hw, hs => by
    have hE : (evens S).Sublist (evens ps) := (hs.filter _).map _
    have hO : (odds S).Sublist (odds ps) := (hs.filter _).map _
    have iE := twos_low w (evens_nd nd) hw.evens hE
    have iO := twos_low w (odds_nd nd) hw.odds hO
    rw [pairs_halves (hs.nodup nd)]
    have hl := halves_len S
    have lE := hE.length_le
    have lO := hO.length_le
    have sE : ((up 0 (numR w (evens ps))).take (evens S).length).sum = ((numR w (evens ps)).take (evens S).length).sum + tri (evens S).length := by
      rw [up_take, up_sum, List.length_take, numR_len, Nat.min_eq_left lE]; omega
    have sO : ((up 0 (numR w (odds ps))).take (odds S).length).sum = ((numR w (odds ps)).take (odds S).length).sum + tri (odds S).length := by
      rw [up_take, up_sum, List.length_take, numR_len, Nat.min_eq_left lO]; omega
    have p : (numR (w + 1) ps).Perm (((up 0 (numR w (evens ps))).take (evens S).length ++ (up 0 (numR w (odds ps))).take (odds S).length) ++
        ((up 0 (numR w (evens ps))).drop (evens S).length ++ (up 0 (numR w (odds ps))).drop (odds S).length)) := by
      rw [show numR (w + 1) ps = (up 0 (numR w (evens ps)) ++ up 0 (numR w (odds ps))).mergeSort (fun a b => decide (a ≤ b)) from rfl]
      refine (List.mergeSort_perm _ _).trans ?_
      conv => lhs; rw [← List.take_append_drop (evens S).length (up 0 (numR w (evens ps))), ← List.take_append_drop (odds S).length (up 0 (numR w (odds ps)))]
      simp only [List.append_assoc]
      refine List.Perm.append_left _ ?_
      rw [← List.append_assoc, ← List.append_assoc]
      exact List.Perm.append_right _ List.perm_append_comm
    have := least_sum (by unfold numR; exact sort_asc _) p
    rw [List.length_append, List.length_take, List.length_take, up_len, up_len, numR_len, numR_len, Nat.min_eq_left lE, Nat.min_eq_left lO, hl, List.sum_append, sE, sO] at this
    omega
theorem map_plus (c : Int → Int) (t : Int) : ∀ l : List Int, (l.map fun y => c y + twos (y - t)).sum = (l.map c).sum + twosTo t l
  | [] => rfl
  | y :: r => by
    rw [List.map_cons, List.map_cons, List.sum_cons, List.sum_cons, map_plus c t r]
    unfold twosTo
    rw [twos_sub y t]
    cases r <;> simp only [twosTo] <;> omega
theorem Gr.sums {kvs l : KC} (h : Gr kvs l) : ∀ (c : Int → Int), (∀ y ∈ kvs, y.2 = c y.1) → ∀ m, ((l.map (·.2)).take m).sum = (((l.map (·.1)).take m).map c).sum + pairs ((l.map (·.1)).take m) := by
  induction h with
  | nil => intro c _ m; simp [pairs]
  | @cons kvs l x h1 h2 _ ih =>
    intro c hc m
    cases m with
    | zero => simp [pairs]
    | succ m =>
      have := ih (fun y => c y + twos (y - x.1)) (fun y hy => by
        obtain ⟨z, hz, rfl⟩ := List.mem_map.mp hy
        show z.2 + twos (z.1 - x.1) = _
        rw [hc z (List.mem_filter.mp hz).1]) m
      rw [List.map_cons, List.map_cons, List.take_succ_cons, List.take_succ_cons, List.sum_cons, this, map_plus, List.map_cons, List.sum_cons, hc x h1]
      simp only [pairs]
      omega
theorem zeros_sum' {l : List Int} : (l.map fun _ => (0 : Int)).sum = 0 := by
  have := zeros_sum l l.length
  rwa [List.take_of_length_le (by rw [List.length_map]; exact Nat.le_refl _)] at this
/-- a beginning of a good order has just the first numbers together -/
theorem first_sum {ps : List Int} (nd : ps.Nodup) (m : Nat) : ((numbersOf ps).take m).sum = pairs ((orderOf ps).take m) := by
  have := (run0_gr nd).sums (fun _ => 0) (fun y hy => by obtain ⟨z, _, rfl⟩ := List.mem_map.mp hy; rfl) m
  unfold numbersOf orderOf
  rw [this, zeros_sum']
  omega
theorem Gr.keys {kvs l : KC} (h : Gr kvs l) (nd : (kvs.map (·.1)).Nodup) : (l.map (·.1)).Perm (kvs.map (·.1)) := by
  induction h with
  | nil => exact .refl _
  | @cons kvs l x h1 h2 _ ih =>
    have i := ih (behind_nodup nd)
    rw [behind_keys] at i
    have hm : x.1 ∈ kvs.map (·.1) := List.mem_map.mpr ⟨x, h1, rfl⟩
    have e : (kvs.map (·.1)).filter (fun k => decide (k ≠ x.1)) = (kvs.map (·.1)).erase x.1 := by
      rw [List.Nodup.erase_eq_filter nd]
      refine List.filter_congr fun k _ => ?_
      by_cases h : k = x.1 <;> simp [h]
    rw [e] at i
    rw [List.map_cons]
    exact (i.cons _).trans (List.perm_cons_erase hm).symm
theorem order_perm {ps : List Int} (nd : ps.Nodup) : (orderOf ps).Perm ps := by
  have := (run0_gr nd).keys (by rw [zeros_keys]; exact nd)
  rwa [zeros_keys] at this
theorem perm_of_mem : ∀ {l m : List Int}, l.Nodup → m.Nodup → (∀ x, x ∈ l ↔ x ∈ m) → l.Perm m
  | [], m, _, _, h => by
    have : m = [] := List.eq_nil_iff_forall_not_mem.mpr fun x hx => by have := (h x).mpr hx; cases this
    rw [this]
  | a :: l, m, h1, h2, h => by
    have h1' := List.nodup_cons.mp h1
    have ha := (h a).mp List.mem_cons_self
    have q := List.perm_cons_erase ha
    refine (List.Perm.cons a (perm_of_mem h1'.2 (h2.erase a) fun x => ?_)).trans q.symm
    rw [h2.mem_erase_iff]
    constructor
    · intro hx; exact ⟨fun e => h1'.1 (e ▸ hx), (h x).mp (List.mem_cons_of_mem _ hx)⟩
    · intro ⟨ne, hx⟩
      rcases List.mem_cons.mp ((h x).mpr hx) with e | e
      · exact absurd e ne
      · exact e
/-- and some lot has just these -/
theorem twos_some {ps : List Int} (nd : ps.Nodup) {m : Nat} (hm : m ≤ ps.length) : ∃ S : List Int, S.Sublist ps ∧ S.length = m ∧ pairs S = ((numbersOf ps).take m).sum := by
  have pp := order_perm nd
  have ond : ((orderOf ps).take m).Nodup := (List.take_sublist _ _).nodup (pp.nodup_iff.mpr nd)
  have p : (ps.filter fun x => decide (x ∈ (orderOf ps).take m)).Perm ((orderOf ps).take m) := perm_of_mem (nd.filter _) ond fun x => by
    rw [List.mem_filter]
    constructor
    · intro h; simpa using h.2
    · intro h; exact ⟨pp.mem_iff.mp (List.mem_of_mem_take h), by simpa using h⟩
  refine ⟨ps.filter fun x => decide (x ∈ (orderOf ps).take m), List.filter_sublist, ?_, ?_⟩
  · rw [p.length_eq, List.length_take, pp.length_eq, Nat.min_eq_left hm]
  · rw [pairs_perm p, first_sum nd]
theorem twos_least {w : Nat} {ps S : List Int} (nd : ps.Nodup) (hw : Within w ps) (hs : S.Sublist ps) : ((numbersOf ps).take S.length).sum ≤ pairs S := by
  rw [numbers_num nd hw]
  exact twos_low w nd hw hs
/-- the law's sum of all twos -/
def allT (row : List Int) : Int := ((List.range row.length).map fun a => twosTo (row.getD a 0) (row.take a)).sum
theorem allT_upto (row : List Int) : ∀ k, k ≤ row.length → ((List.range k).map fun a => twosTo (row.getD a 0) (row.take a)).sum = pairs (row.take k)
  | 0, _ => by simp [pairs]
  | k + 1, h => by
    rw [List.range_succ, List.map_append, List.sum_append, allT_upto row k (by omega), List.take_succ_eq_append_getElem (by omega), pairs_snoc]
    simp only [List.map_cons, List.map_nil, List.sum_cons, List.sum_nil]
    rw [List.getD_eq_getElem?_getD, List.getElem?_eq_getElem (by omega), Option.getD_some]
    omega
theorem allT_pairs (row : List Int) : allT row = pairs row := by
  unfold allT
  rw [allT_upto row _ (Nat.le_refl _), List.take_length]
/-- the law's lots -/
def lotStep (n : Nat) (F : List (List Int)) (x : Int) : List (List Int) := F ++ (F.filter fun s => decide (s.length < n)).map fun s => s ++ [x]
def lots (n : Nat) (ps : List Int) : List (List Int) := ps.foldl (lotStep n) [[]]
theorem lots_snoc (n : Nat) (ps : List Int) (x : Int) : lots n (ps ++ [x]) = lotStep n (lots n ps) x := by unfold lots; rw [List.foldl_append]; rfl
theorem lots_mem (n : Nat) : ∀ (k : Nat) (ps : List Int), ps.length = k → ∀ s, s ∈ lots n ps ↔ s.Sublist ps ∧ s.length ≤ n
  | 0, ps, hk, s => by
    have : ps = [] := List.length_eq_zero_iff.mp hk
    subst this
    unfold lots
    simp only [List.foldl_nil, List.mem_singleton, List.sublist_nil]
    constructor
    · intro h; subst h; exact ⟨rfl, Nat.zero_le _⟩
    · exact fun h => h.1
  | k + 1, ps, hk, s => by
    have ne : ps ≠ [] := fun e => by rw [e] at hk; cases hk
    obtain ⟨qs, x, rfl⟩ : ∃ qs x, ps = qs ++ [x] := ⟨ps.dropLast, ps.getLast ne, (List.dropLast_concat_getLast ne).symm⟩
    have ih := lots_mem n k qs (by simpa using hk)
    rw [lots_snoc]
    unfold lotStep
    rw [List.mem_append, List.mem_map, List.sublist_append_iff, ih]
    constructor
    · rintro (⟨h, hl⟩ | ⟨t, ht, rfl⟩)
      · exact ⟨⟨s, [], by simp, h, by simp⟩, hl⟩
      · have ht' := List.mem_filter.mp ht
        have hl : t.length < n := by simpa using ht'.2
        exact ⟨⟨t, [x], rfl, ((ih t).mp ht'.1).1, .refl _⟩, by rw [List.length_append]; exact hl⟩
    · rintro ⟨⟨a, b, rfl, ha, hb⟩, hl⟩
      rw [List.length_append] at hl
      match b, hb with
      | [], _ => exact .inl ⟨by rwa [List.append_nil], by simpa using hl⟩
      | [y], hb =>
        have : y = x := by
          have := hb.subset List.mem_cons_self
          simpa using this
        subst this
        refine .inr ⟨a, List.mem_filter.mpr ⟨(ih a).mpr ⟨ha, ?_⟩, ?_⟩, rfl⟩
        · simp at hl; omega
        · simp at hl ⊢; omega
      | _ :: _ :: _, hb => have := hb.length_le; simp at this
/-- what the law takes for due: the least over all lots -/
theorem lots_least {w : Nat} {ps : List Int} (nd : ps.Nodup) (hw : Within w ps) {n : Nat} (hn : n ≤ ps.length) :
    (∃ s ∈ (lots n ps).filter (fun s => decide (s.length = n)), allT s = ((numbersOf ps).take n).sum) ∧ ∀ s ∈ (lots n ps).filter (fun s => decide (s.length = n)), ((numbersOf ps).take n).sum ≤ allT s := by
  refine ⟨?_, fun s hs => ?_⟩
  · obtain ⟨S, h1, h2, h3⟩ := twos_some nd hn
    exact ⟨S, List.mem_filter.mpr ⟨(lots_mem n _ ps rfl S).mpr ⟨h1, by omega⟩, by simpa using h2⟩, by rw [allT_pairs, h3]⟩
  · have hs' := List.mem_filter.mp hs
    have e : s.length = n := by simpa using hs'.2
    have := twos_least nd hw ((lots_mem n _ ps rfl s).mp hs'.1).1
    rw [allT_pairs, ← e]
    exact this
end AP

set_option maxHeartbeats 4000000
/-! Numbers with a place more or less; numbers of neighbours and of steps. -/
namespace AP
theorem numR_short : ∀ (w : Nat) {ps : List Int}, ps.length ≤ 1 → numR w ps = ps.map fun _ => 0
  | 0, _, _ => rfl
  | w + 1, [], _ => by
    have := numR_short w (ps := []) (by simp)
    show (up 0 (numR w []) ++ up 0 (numR w [])).mergeSort _ = []
    rw [this]
    simp [up]
  | w + 1, [p], _ => by
    have h0 := numR_short w (ps := []) (by simp)
    have h1 := numR_short w (ps := [p / 2]) (by simp)
    show (up 0 (numR w (evens [p])) ++ up 0 (numR w (odds [p]))).mergeSort _ = [0]
    rcases mod_two p with e | e
    · rw [evens_cons0 e, odds_cons0 e, show evens [] = [] from rfl, show odds [] = [] from rfl, h0, h1]
      simp [up]
    · rw [evens_cons1 e, odds_cons1 e, show evens [] = [] from rfl, show odds [] = [] from rfl, h0, h1]
      simp [up]
  | _ + 1, _ :: _ :: _, h => by simp at h
/-- how many are at most so great -/
def cnt (l : List Int) (v : Int) : Nat := (l.filter fun x => decide (x ≤ v)).length
theorem cnt_append (l m : List Int) (v : Int) : cnt (l ++ m) v = cnt l v + cnt m v := by unfold cnt; rw [List.filter_append, List.length_append]
theorem cnt_perm {l m : List Int} (p : l.Perm m) (v : Int) : cnt l v = cnt m v := (p.filter _).length_eq
theorem cnt_asc {v : Int} : ∀ {l : List Int}, l.Pairwise (· ≤ ·) → ∀ i, i < l.length → (l.getD i 0 ≤ v ↔ i < cnt l v)
  | [], _, i, h => by simp at h
  | a :: l, hp, i, h => by
    have hp' := List.pairwise_cons.mp hp
    have ih := fun i h => cnt_asc (v := v) hp'.2 i h
    unfold cnt at ih ⊢
    by_cases ha : a ≤ v
    · rw [List.filter_cons_of_pos (by simpa using ha), List.length_cons]
      cases i with
      | zero => simp [ha]
      | succ i =>
        have := ih i (by simpa using h)
        simp only [List.getD_cons_succ]
        omega
    · rw [List.filter_cons_of_neg (by simpa using ha)]
      have none : (l.filter fun x => decide (x ≤ v)) = [] := by
        rw [List.filter_eq_nil_iff]
        intro x hx
        have := hp'.1 x hx
        simp
        omega
      rw [none]
      cases i with
      | zero => simp [ha]
      | succ i =>
        have hi : i < l.length := by simpa using h
        have := ih i hi
        rw [none] at this
        simp only [List.getD_cons_succ]
        simpa using this
/-- one more, between the others -/
structure IL (A A' : List Int) : Prop where
  len : A'.length = A.length + 1
  lo : ∀ i, i < A.length → A'.getD i 0 ≤ A.getD i 0
  hi : ∀ i, i < A.length → A.getD i 0 ≤ A'.getD (i + 1) 0
theorem cnt_le (l : List Int) (v : Int) : cnt l v ≤ l.length := List.length_filter_le _ _
theorem IL.cnt {A A' : List Int} (h : IL A A') (a : A.Pairwise (· ≤ ·)) (a' : A'.Pairwise (· ≤ ·)) (v : Int) : cnt A v ≤ cnt A' v ∧ cnt A' v ≤ cnt A v + 1 := by
  have l1 := cnt_le A v
  have l2 := cnt_le A' v
  have len := h.len
  constructor
  · by_cases c : AP.cnt A v ≤ AP.cnt A' v
    · exact c
    · have i1 := (cnt_asc (v := v) a (AP.cnt A' v) (by omega)).mpr (by omega)
      have i2 := h.lo (AP.cnt A' v) (by omega)
      have i3 := (cnt_asc (v := v) a' (AP.cnt A' v) (by omega)).mp (by omega)
      omega
  · by_cases c : AP.cnt A' v ≤ AP.cnt A v + 1
    · exact c
    · have i1 := (cnt_asc (v := v) a' (AP.cnt A v + 1) (by omega)).mpr (by omega)
      have i2 := h.hi (AP.cnt A v) (by omega)
      have i3 := (cnt_asc (v := v) a (AP.cnt A v) (by omega)).mp (by omega)
      omega
theorem IL.of_cnt {A A' : List Int} (a : A.Pairwise (· ≤ ·)) (a' : A'.Pairwise (· ≤ ·)) (len : A'.length = A.length + 1) (h : ∀ v, AP.cnt A v ≤ AP.cnt A' v ∧ AP.cnt A' v ≤ AP.cnt A v + 1) : IL A A' := by
  refine ⟨len, fun i hi => ?_, fun i hi => ?_⟩
  · have i1 := (cnt_asc (v := A.getD i 0) a i hi).mp (Int.le_refl _)
    have i2 := h (A.getD i 0)
    exact (cnt_asc a' i (by omega)).mpr (by omega)
  · have i1 := (cnt_asc (v := A'.getD (i + 1) 0) a' (i + 1) (by omega)).mp (Int.le_refl _)
    have i2 := h (A'.getD (i + 1) 0)
    exact (cnt_asc a i hi).mpr (by omega)
theorem up_getD : ∀ (t : Int) (l : List Int) (i : Nat), i < l.length → (up t l).getD i 0 = l.getD i 0 + t + (i : Int)
  | _, [], _, h => by simp at h
  | t, x :: r, 0, _ => by simp [up]
  | t, x :: r, i + 1, h => by
    unfold up
    rw [List.getD_cons_succ, List.getD_cons_succ, up_getD (t + 1) r i (by simpa using h)]
    omega
theorem up_ge {m : Int} : ∀ (t : Int) {l : List Int}, (∀ x ∈ l, m ≤ x) → ∀ y ∈ up t l, m + t ≤ y
  | _, [], _, y, hy => by cases hy
  | t, x :: r, h, y, hy => by
    unfold up at hy
    have h0 := h x List.mem_cons_self
    rcases List.mem_cons.mp hy with rfl | hy
    · omega
    · have := up_ge (t + 1) (fun z hz => h z (List.mem_cons_of_mem _ hz)) y hy
      omega
theorem up_asc : ∀ (t : Int) {l : List Int}, l.Pairwise (· ≤ ·) → (up t l).Pairwise (· ≤ ·)
  | _, [], _ => .nil
  | t, x :: r, h => by
    have h' := List.pairwise_cons.mp h
    unfold up
    refine .cons (fun y hy => ?_) (up_asc (t + 1) h'.2)
    have := up_ge (t + 1) h'.1 y hy
    omega
theorem IL.up {A A' : List Int} (h : IL A A') : IL (up 0 A) (up 0 A') := by
  have len := h.len
  refine ⟨by rw [up_len, up_len, len], fun i hi => ?_, fun i hi => ?_⟩
  · rw [up_len] at hi
    rw [up_getD _ _ _ hi, up_getD _ _ _ (by omega)]
    have := h.lo i hi
    omega
  · rw [up_len] at hi
    rw [up_getD _ _ _ hi, up_getD _ _ _ (by omega)]
    have := h.hi i hi
    omega
theorem numR_asc : ∀ (w : Nat) (ps : List Int), (numR w ps).Pairwise (· ≤ ·)
  | 0, ps => by
    unfold numR
    induction ps with
    | nil => exact .nil
    | cons a ps ih => exact .cons (fun y hy => by obtain ⟨_, _, rfl⟩ := List.mem_map.mp hy; exact Int.le_refl _) ih
  | w + 1, ps => by unfold numR; exact sort_asc _
theorem numR_cnt (w : Nat) (ps : List Int) (v : Int) : cnt (numR (w + 1) ps) v = cnt (up 0 (numR w (evens ps))) v + cnt (up 0 (numR w (odds ps))) v := by
  rw [← cnt_append]
  exact cnt_perm (List.mergeSort_perm _ _) v
theorem zeros_getD (ps : List Int) (i : Nat) : (ps.map fun _ => (0 : Int)).getD i 0 = 0 := by
  rw [List.getD_eq_getElem?_getD, List.getElem?_map]
  cases ps[i]? <;> rfl
/-- with a place more -/
theorem numR_more : ∀ (w : Nat) (p : Int) (ps : List Int), IL (numR w ps) (numR w (p :: ps))
  | 0, p, ps => by
    unfold numR
    exact ⟨by simp, fun i _ => by rw [zeros_getD, zeros_getD]; exact Int.le_refl _, fun i _ => by rw [zeros_getD, zeros_getD]; exact Int.le_refl _⟩
  | w + 1, p, ps => by
    refine IL.of_cnt (numR_asc _ _) (numR_asc _ _) (by rw [numR_len, numR_len, List.length_cons]) fun v => ?_
    rw [numR_cnt, numR_cnt]
    rcases mod_two p with e | e
    · rw [evens_cons0 e, odds_cons0 e]
      have := (numR_more w (p / 2) (evens ps)).up.cnt (up_asc _ (numR_asc _ _)) (up_asc _ (numR_asc _ _)) v
      omega
    · rw [evens_cons1 e, odds_cons1 e]
      have := (numR_more w (p / 2) (odds ps)).up.cnt (up_asc _ (numR_asc _ _)) (up_asc _ (numR_asc _ _)) v
      omega
theorem numR_perm : ∀ (w : Nat) {ps qs : List Int}, ps.Perm qs → numR w ps = numR w qs
  | 0, _, _, p => by
    unfold numR
    rw [List.map_const', List.map_const', p.length_eq]
  | w + 1, _, _, p => by
    unfold numR
    rw [show numR w (evens _) = _ from numR_perm w ((p.filter _).map _), show numR w (odds _) = _ from numR_perm w ((p.filter _).map _)]
    rfl
theorem numbers_more {w : Nat} {ps qs : List Int} {p : Int} (nd : qs.Nodup) (hw : Within w qs) (pm : qs.Perm (p :: ps)) : IL (numbersOf ps) (numbersOf qs) := by
  have nd' := pm.nodup_iff.mp nd
  rw [numbers_num nd hw, numbers_num (List.nodup_cons.mp nd').2 (fun x hx => hw x (pm.mem_iff.mpr (List.mem_cons_of_mem _ hx))), numR_perm w pm]
  exact numR_more w p ps
/-! neighbours -/
def fal : Nat → Int
  | 0 => 0
  | n + 1 => fal n + twos ((n : Int) + 1)
theorem fal_double : ∀ i : Nat, fal (2 * i) = fal i + i ∧ fal (2 * i + 1) = fal i + i
  | 0 => ⟨rfl, rfl⟩
  | i + 1 => by
    obtain ⟨h1, h2⟩ := fal_double i
    have e1 : fal (2 * (i + 1)) = fal (i + 1) + (i + 1 : Nat) := by
      show fal (2 * i + 1) + twos (((2 * i + 1 : Nat) : Int) + 1) = fal i + twos ((i : Int) + 1) + _
      rw [h2, twos_even (by omega) (by omega), show (((2 * i + 1 : Nat) : Int) + 1) / 2 = (i : Int) + 1 by omega]
      omega
    refine ⟨e1, ?_⟩
    show fal (2 * (i + 1)) + twos (((2 * (i + 1) : Nat) : Int) + 1) = _
    rw [e1, twos_odd (by omega)]
    omega
theorem fal_mono : ∀ {i j : Nat}, i ≤ j → fal i ≤ fal j
  | i, 0, h => by rw [Nat.le_zero.mp h]; exact Int.le_refl _
  | i, j + 1, h => by
    by_cases e : i = j + 1
    · rw [e]; exact Int.le_refl _
    · have := fal_mono (i := i) (j := j) (by omega)
      have := twos_nonneg ((j : Int) + 1)
      show fal i ≤ fal j + twos ((j : Int) + 1)
      omega
def row (n : Nat) : List Int := (List.range n).map fun i : Nat => (i : Int)
theorem row_succ (n : Nat) : row (n + 1) = row n ++ [(n : Int)] := by unfold row; rw [List.range_succ, List.map_append]; rfl
theorem evens_append (l m : List Int) : evens (l ++ m) = evens l ++ evens m := by unfold evens; rw [List.filter_append, List.map_append]
theorem odds_append (l m : List Int) : odds (l ++ m) = odds l ++ odds m := by unfold odds; rw [List.filter_append, List.map_append]
theorem row_halves : ∀ n, evens (row n) = row ((n + 1) / 2) ∧ odds (row n) = row (n / 2)
  | 0 => ⟨rfl, rfl⟩
  | n + 1 => by
    obtain ⟨h1, h2⟩ := row_halves n
    rw [row_succ, evens_append, odds_append, h1, h2]
    rcases mod_two (n : Int) with e | e
    · rw [evens_cons0 e, odds_cons0 e, show evens [] = [] from rfl, show odds [] = [] from rfl, List.append_nil, show (n + 1 + 1) / 2 = (n + 1) / 2 + 1 by omega, row_succ, show (n + 1) / 2 = n / 2 by omega]
      refine ⟨?_, rfl⟩
      congr 2
    · rw [evens_cons1 e, odds_cons1 e, show evens [] = [] from rfl, show odds [] = [] from rfl, List.append_nil, show (n + 1 + 1) / 2 = (n + 1) / 2 by omega, show (n + 1) / 2 = n / 2 + 1 by omega, row_succ (n / 2)]
      refine ⟨rfl, ?_⟩
      congr 2
theorem up_fal (m : Nat) : up 0 ((List.range m).map fal) = (List.range m).map fun i : Nat => fal i + i := by
  refine List.ext_getElem (by rw [up_len, List.length_map, List.length_map]) fun i h1 h2 => ?_
  rw [up_len, List.length_map, List.length_range] at h1
  have := up_getD 0 ((List.range m).map fal) i (by simpa using h1)
  rw [List.getD_eq_getElem?_getD, List.getD_eq_getElem?_getD, List.getElem?_eq_getElem (by rw [up_len]; simpa using h1), List.getElem?_eq_getElem (by simpa using h1), Option.getD_some, Option.getD_some] at this
  rw [this]
  simp
theorem fal_split : ∀ n, ((List.range ((n + 1) / 2)).map (fun i : Nat => fal i + i) ++ (List.range (n / 2)).map (fun i : Nat => fal i + i)).Perm ((List.range n).map fal)
  | 0 => .refl _
  | n + 1 => by
    have ih := fal_split n
    rw [List.range_succ (n := n), List.map_append]
    rcases Nat.mod_two_eq_zero_or_one n with e | e
    · obtain ⟨k, rfl⟩ : ∃ k, n = 2 * k := ⟨n / 2, by omega⟩
      rw [show (2 * k + 1) / 2 = k by omega, show 2 * k / 2 = k by omega] at ih
      rw [show (2 * k + 1 + 1) / 2 = k + 1 by omega, show (2 * k + 1) / 2 = k by omega, List.range_succ (n := k), List.map_append, List.append_assoc]
      refine (List.Perm.append_left _ List.perm_append_comm).trans ?_
      rw [← List.append_assoc]
      refine ih.append ?_
      rw [List.map_cons, List.map_cons, (fal_double k).1]
      exact .refl _
    · obtain ⟨k, rfl⟩ : ∃ k, n = 2 * k + 1 := ⟨n / 2, by omega⟩
      rw [show (2 * k + 1 + 1) / 2 = k + 1 by omega, show (2 * k + 1) / 2 = k by omega] at ih
      rw [show (2 * k + 1 + 1 + 1) / 2 = k + 1 by omega, show (2 * k + 1 + 1) / 2 = k + 1 by omega]
      conv => lhs; arg 2; rw [List.range_succ (n := k), List.map_append]
      rw [← List.append_assoc]
      refine ih.append ?_
      rw [List.map_cons, List.map_cons, (fal_double k).2]
      exact .refl _
theorem fal_asc : ∀ n, ((List.range n).map fal).Pairwise (· ≤ ·)
  | n => by
    refine List.Pairwise.map _ (R := fun a b : Nat => a ≤ b) (fun a b h => fal_mono h) ?_
    refine List.pairwise_iff_getElem.mpr fun i j hi hj hij => ?_
    simp at hi hj ⊢
    omega
theorem numR_row : ∀ (w n : Nat), n ≤ 2 ^ w → numR w (row n) = (List.range n).map fal
  | 0, 0, _ => rfl
  | 0, 1, _ => rfl
  | 0, n + 2, h => by simp at h
  | w + 1, n, h => by
    rw [Nat.pow_succ] at h
    obtain ⟨h1, h2⟩ := row_halves n
    refine asc_unique (numR_asc _ _) (fal_asc n) ?_
    show ((up 0 (numR w (evens (row n))) ++ up 0 (numR w (odds (row n)))).mergeSort _).Perm _
    rw [h1, h2, numR_row w _ (by omega), numR_row w _ (by omega), up_fal, up_fal]
    exact (List.mergeSort_perm _ _).trans (fal_split n)
theorem row_nodup (n : Nat) : (row n).Nodup := by
  unfold row
  refine List.Pairwise.map _ (R := fun a b : Nat => a ≠ b) (fun a b h e => h (by omega)) List.nodup_range
theorem row_within {w n : Nat} (h : n ≤ 2 ^ w) : Within w (row n) := fun p hp => by
  obtain ⟨i, hi, rfl⟩ := List.mem_map.mp hp
  have hi := List.mem_range.mp hi
  have e : ((2 : Int) ^ w) = ((2 ^ w : Nat) : Int) := by norm_cast
  omega
theorem numbers_row {w n : Nat} (h : n ≤ 2 ^ w) : numbersOf (row n) = (List.range n).map fal := by rw [numbers_num (row_nodup n) (row_within h), numR_row w n h]
/-! steps -/
theorem twos_odd_mul {o : Int} (ho : o % 2 = 1) : ∀ (k : Nat) (m : Int), m.natAbs ≤ k → twos (o * m) = twos m
  | 0, m, h => by rw [show m = 0 by omega, Int.mul_zero]
  | k + 1, m, h => by
    by_cases h0 : m = 0
    · rw [h0, Int.mul_zero]
    · rcases mod_two m with e | e
      · obtain ⟨q, rfl⟩ : ∃ q, m = 2 * q := ⟨m / 2, by omega⟩
        have ne : o * q ≠ 0 := fun z => by
          rcases Int.mul_eq_zero.mp z with z | z <;> omega
        have e2 : o * (2 * q) = 2 * (o * q) := by rw [← Int.mul_assoc, Int.mul_comm o 2, Int.mul_assoc]
        rw [e2, twos_even (n := 2 * (o * q)) (by omega) (by omega), twos_even (n := 2 * q) h0 (by omega), show 2 * (o * q) / 2 = o * q by omega, show 2 * q / 2 = q by omega, twos_odd_mul ho k q (by omega)]
      · rw [twos_odd e, twos_odd (by rw [Int.mul_emod, ho, e] <;> rfl)]
theorem twos_pow_mul : ∀ (t : Nat) {m : Int}, m ≠ 0 → twos (2 ^ t * m) = twos m + t
  | 0, m, _ => by simp
  | t + 1, m, h => by
    have e : (2 : Int) ^ (t + 1) * m = 2 * (2 ^ t * m) := by rw [Int.pow_succ, Int.mul_comm (2 ^ t) 2, Int.mul_assoc]
    have ne : (2 : Int) ^ t * m ≠ 0 := fun z => by
      rcases Int.mul_eq_zero.mp z with z | z
      · have := Int.pow_pos (n := (2 : Int)) (m := t) (by decide); omega
      · exact h z
    rw [e, twos_even (n := 2 * (2 ^ t * m)) (by omega) (by omega), show 2 * (2 ^ t * m) / 2 = 2 ^ t * m by omega, twos_pow_mul t h]
    omega
def aff (φ : Int → Int) (t : Int) : Int → KC → KC
  | _, [] => []
  | s, x :: l => (φ x.1, x.2 + s) :: aff φ t (s + t) l
theorem Gr.affine {kvs l : KC} (h : Gr kvs l) {φ : Int → Int} {t : Int} (inj : ∀ x y, φ x = φ y → x = y) (ht : ∀ x y, x ≠ y → twos (φ x - φ y) = twos (x - y) + t) : ∀ s, Gr (kvs.map fun p => (φ p.1, p.2 + s)) (aff φ t s l) := by
  induction h with
  | nil => exact fun _ => .nil
  | @cons kvs l x h1 h2 _ ih =>
    intro s
    refine .cons (List.mem_map.mpr ⟨x, h1, rfl⟩) (fun y hy => ?_) ?_
    · obtain ⟨z, hz, rfl⟩ := List.mem_map.mp hy
      have := h2 z hz
      show x.2 + s ≤ z.2 + s
      omega
    · have e : behind (kvs.map fun p => (φ p.1, p.2 + s)) (φ x.1) = (behind kvs x.1).map fun p => (φ p.1, p.2 + (s + t)) := by
        unfold behind
        rw [List.filter_map, List.map_map, List.map_map]
        have f : kvs.filter ((fun p : Int × Int => decide (p.1 ≠ φ x.1)) ∘ fun p => (φ p.1, p.2 + s)) = kvs.filter fun p => decide (p.1 ≠ x.1) :=
          List.filter_congr fun p _ => decide_eq_decide.mpr ⟨fun h e => h (show φ p.1 = φ x.1 by rw [e]), fun h e => h (inj _ _ e)⟩
        rw [f]
        refine List.map_congr_left fun p hp => ?_
        have ne : p.1 ≠ x.1 := by simpa using (List.mem_filter.mp hp).2
        show (φ p.1, p.2 + s + twos (φ p.1 - φ x.1)) = (φ p.1, p.2 + twos (p.1 - x.1) + (s + t))
        rw [ht _ _ ne]
        congr 1
        omega
      show Gr (behind _ (φ x.1)) _
      rw [e]
      exact ih (s + t)
theorem aff_numbers (φ : Int → Int) (t : Int) : ∀ (s : Int) (l : KC) , (aff φ t s l).map (·.2) = (List.range l.length).map fun i : Nat => (l.map (·.2)).getD i 0 + s + t * i
  | _, [] => rfl
  | s, x :: l => by
    rw [List.length_cons, List.range_succ_eq_map, List.map_cons, List.map_map]
    unfold aff
    rw [List.map_cons, aff_numbers φ t (s + t) l]
    congr 1
    · simp
    · refine List.map_congr_left fun i _ => ?_
      show _ = ((x :: l).map (·.2)).getD (i + 1) 0 + s + t * ((i + 1 : Nat) : Int)
      rw [List.map_cons, List.getD_cons_succ, Int.natCast_add, Int.mul_add]
      omega
theorem zeros_len (ps : List Int) : (zeros ps).length = ps.length := by unfold zeros; rw [List.length_map]
/-- numbers of even steps -/
theorem numbers_steps {w n t : Nat} {s o : Int} (ho : o % 2 = 1) (hn : n ≤ 2 ^ w) (hw : Within w ((row n).map fun x => s + 2 ^ t * o * x)) :
    numbersOf ((row n).map fun x => s + 2 ^ t * o * x) = (List.range n).map fun k : Nat => fal k + t * k := by
  have d0 : (2 : Int) ^ t * o ≠ 0 := fun z => by
    rcases Int.mul_eq_zero.mp z with z | z
    · have := Int.pow_pos (n := (2 : Int)) (m := t) (by decide); omega
    · omega
  have inj : ∀ x y : Int, s + 2 ^ t * o * x = s + 2 ^ t * o * y → x = y := fun x y e => Int.eq_of_mul_eq_mul_left d0 (by omega)
  have ht : ∀ x y : Int, x ≠ y → twos ((s + 2 ^ t * o * x) - (s + 2 ^ t * o * y)) = twos (x - y) + (t : Int) := fun x y ne => by
    have e : (s + 2 ^ t * o * x) - (s + 2 ^ t * o * y) = 2 ^ t * (o * (x - y)) := by
      rw [← Int.mul_assoc, Int.mul_sub]
      omega
    have ne2 : o * (x - y) ≠ 0 := fun z => by
      rcases Int.mul_eq_zero.mp z with z | z <;> omega
    rw [e, twos_pow_mul t ne2, twos_odd_mul ho _ _ (Nat.le_refl _)]
  have nd : ((row n).map fun x => s + 2 ^ t * o * x).Nodup := List.Pairwise.map _ (R := fun a b : Int => a ≠ b) (fun a b h e => h (inj a b e)) (row_nodup n)
  have g := (run0_gr (row_nodup n)).affine inj ht 0
  have z : (zeros (row n)).map (fun p : Int × Int => (s + 2 ^ t * o * p.1, p.2 + 0)) = zeros ((row n).map fun x => s + 2 ^ t * o * x) := by
    unfold zeros
    rw [List.map_map, List.map_map]
    rfl
  rw [z] at g
  rw [numbers_num nd hw, ← gr_num w nd hw g, aff_numbers]
  have ln : (run0 (row n)).length = n := by rw [(run0_gr (row_nodup n)).len (by rw [zeros_keys]; exact row_nodup n), zeros_len]; unfold row; simp
  rw [ln]
  refine List.map_congr_left fun i hi => ?_
  have hi := List.mem_range.mp hi
  have e : (run0 (row n)).map (·.2) = (List.range n).map fal := numbers_row hn
  rw [e, List.getD_eq_getElem?_getD, List.getElem?_map, List.getElem?_range hi]
  show fal i + 0 + _ = _
  omega
end AP

set_option maxHeartbeats 4000000
/-! Words of polynomials: rests by powers of 2, sums. -/
namespace AP
theorem polyS_dvd (a b : Int) : ∀ cs : List Int, (b - a) ∣ polyS cs b - polyS cs a
  | [] => ⟨0, by simp [polyS]⟩
  | c :: r => by
    obtain ⟨q, hq⟩ := polyS_dvd a b r
    refine ⟨polyS r b + a * q, ?_⟩
    show (c + b * polyS r b) - (c + a * polyS r a) = _
    have e1 : (b - a) * (polyS r b + a * q) = b * polyS r b - a * polyS r b + a * ((b - a) * q) := by
      rw [Int.mul_add, Int.sub_mul, ← Int.mul_assoc, Int.mul_comm (b - a) a, Int.mul_assoc]
    rw [e1, ← hq, Int.mul_sub]
    omega
theorem twos_dvd : ∀ (k : Nat) {n : Int}, n ≠ 0 → n.natAbs ≤ k → ((2 : Int) ^ (twos n).toNat) ∣ n
  | 0, n, h, hk => absurd (by omega) h
  | k + 1, n, h, hk => by
    rcases mod_two n with e | e
    · have ih := twos_dvd k (n := n / 2) (by omega) (by omega)
      obtain ⟨q, hq⟩ := ih
      have t := twos_even h e
      have p := twos_nonneg (n / 2)
      refine ⟨q, ?_⟩
      rw [t, show (twos (n / 2) + 1).toNat = (twos (n / 2)).toNat + 1 by omega, Int.pow_succ, Int.mul_comm (2 ^ _) 2, Int.mul_assoc, ← hq]
      omega
    · rw [twos_odd e]
      exact ⟨n, by simp⟩
theorem pow_dvd_pow {a b : Nat} (h : a ≤ b) : ((2 : Int) ^ a) ∣ 2 ^ b := ⟨2 ^ (b - a), by rw [← Int.pow_add, Nat.add_sub_cancel' h]⟩
/-- words at two places leave the same rest by each power of 2 that divides the difference and the width's -/
theorem words_rest {cs : List Int} {a b : Int} {w m : Nat} (h : ((2 : Int) ^ m) ∣ b - a) (hm : m ≤ w) : (polyS cs a % 2 ^ w - polyS cs b % 2 ^ w) % 2 ^ m = 0 := by
  have d1 := pow_dvd_pow hm
  have d2 : ((2 : Int) ^ m) ∣ polyS cs b - polyS cs a := Int.dvd_trans h (polyS_dvd a b cs)
  rw [Int.sub_emod, Int.emod_emod_of_dvd _ d1, Int.emod_emod_of_dvd _ d1, ← Int.sub_emod]
  have : polyS cs a - polyS cs b = -(polyS cs b - polyS cs a) := by omega
  rw [this]
  exact Int.emod_eq_zero_of_dvd (Int.dvd_neg.mpr d2)
theorem polyS_pad (x : Int) (n : Nat) : ∀ l : List Int, polyS (l ++ List.replicate n 0) x = polyS l x
  | [] => by
    induction n with
    | zero => rfl
    | succ n ih =>
      rw [List.nil_append] at ih ⊢
      rw [List.replicate_succ]
      unfold polyS
      rw [ih]
      simp [polyS]
  | a :: l => by
    rw [List.cons_append]
    unfold polyS
    rw [polyS_pad x n l]
def addL : List Int → List Int → List Int
  | a :: r, b :: s => (a + b) :: addL r s
  | _, _ => []
theorem polyS_add (x : Int) : ∀ {l m : List Int}, l.length = m.length → polyS (addL l m) x = polyS l x + polyS m x
  | [], [], _ => by simp [addL, polyS]
  | a :: r, b :: s, h => by
    unfold addL polyS
    rw [polyS_add x (l := r) (m := s) (by simpa using h), Int.mul_add]
    omega
  | [], _ :: _, h => by simp at h
  | _ :: _, [], h => by simp at h
theorem addL_range : ∀ {l m : List Int}, l.length = m.length → ((List.range l.length).map fun k => l.getD k 0 + m.getD k 0) = addL l m
  | [], [], _ => rfl
  | a :: r, b :: s, h => by
    rw [List.length_cons, List.range_succ_eq_map, List.map_cons, List.map_map]
    unfold addL
    rw [← addL_range (l := r) (m := s) (by simpa using h)]
    congr 1
  | [], _ :: _, h => by simp at h
  | _ :: _, [], h => by simp at h
theorem addL_len : ∀ {l m : List Int}, l.length = m.length → (addL l m).length = l.length
  | [], [], _ => rfl
  | a :: r, b :: s, h => by unfold addL; rw [List.length_cons, List.length_cons, addL_len (l := r) (m := s) (by simpa using h)]
  | [], _ :: _, h => by simp at h
  | _ :: _, [], h => by simp at h
theorem addL_mem {P : Int → Int → Prop} : ∀ {l m : List Int} {c : Int}, c ∈ addL l m → ∃ a ∈ l, ∃ b ∈ m, c = a + b
  | a :: r, b :: s, c, h => by
    unfold addL at h
    rcases List.mem_cons.mp h with e | h
    · exact ⟨a, List.mem_cons_self, b, List.mem_cons_self, e⟩
    · obtain ⟨x, hx, y, hy, e⟩ := addL_mem (P := P) h
      exact ⟨x, List.mem_cons_of_mem _ hx, y, List.mem_cons_of_mem _ hy, e⟩
  | [], _, _, h => by simp [addL] at h
  | _ :: _, [], _, h => by simp [addL] at h
theorem parts_same (ps ws : List Int) : partsL ps ws ws = [] := by
  unfold partsL
  rw [List.filter_eq_nil_iff.mpr fun _ _ => by simp] <;> rfl
theorem parts_comm (ps ws os : List Int) : partsL ps ws os = partsL ps os ws := by
  unfold partsL
  congr 1
  exact List.filter_congr fun k _ => by rw [decide_eq_decide.mpr (eq_comm)]
end AP

set_option maxHeartbeats 4000000
namespace K02
open PySem PySem.Spec PyProof.Rows L2 AP Evl
def topS (i : Nat) : Stmt := PySem.Challenge.pw_anyplaces_k02_whole_words_of_polynomials.main.body.getD i (.Pass ⟨0, 0, 0, 0⟩)
/-- the built-in names -/
structure TN (mg : Str → Option Value) : Prop where
  b_int : mg "int" = none
  b_bool : mg "bool" = none
  b_list : mg "list" = none
  b_tuple : mg "tuple" = none
  b_dict : mg "dict" = none
  b_isinstance : mg "isinstance" = none
  b_all : mg "all" = none
  b_any : mg "any" = none
  b_len : mg "len" = none
  b_range : mg "range" = none
  b_sum : mg "sum" = none
  b_max : mg "max" = none
  b_min : mg "min" = none
  b_sorted : mg "sorted" = none
  b_repr : mg "repr" = none
  b_enumerate : mg "enumerate" = none
  b_zip : mg "zip" = none
  b_reversed : mg "reversed" = none
  b_abs : mg "abs" = none

section
variable {P : Program} {w : World} {K : PySem.W.Frag} {mg : Str → Option Value} {base : Heap}
abbrev sis_whole : Stmt := topS 9
theorem scis_whole : FnScope ["value"] ["value"] (defScope sis_whole) := ⟨rfl, rfl, rfl, by decide +kernel, rfl, by decide +kernel, by decide +kernel⟩
theorem ok_is_whole {f : Addr} {fd : FuncData} (F : Df K "is_whole" "is_whole" sis_whole [] f fd) (T : TN mg)   :
    FnOk P w K mg base CX0 1 f fd ["value"] cWhole.sp := by
  refine con_go F scis_whole cWhole (fun _ => rfl) fun cdv A outer s H E i G z0 B0 hr hp at0 hz => ⟨_, (pss_one (ps_ret (pe_and (pe_callB (r := rIsi K) call_isi (by rfl) T.b_isinstance (by decide +kernel) (pa_cons (pv 0) (pa_cons (pe_bltn (v := .ty "int") (by rfl) T.b_int (by decide +kernel) rfl) pa_nil))) (pe_one (pe_not (pe_callB (r := rIsi K) call_isi (by rfl) T.b_isinstance (by decide +kernel) (pa_cons (pv 0) (pa_cons (pe_bltn (v := .ty "bool") (by rfl) T.b_bool (by decide +kernel) rfl) pa_nil)))))))), fun σ Q en q => ?_⟩
  have n0 := Nx.refl at0
  exact q_ret at0 n0 en ((ty_andV (ty_isi .int (ty_var rfl)) fun _ => ty_notV (ty_isi .bool (ty_var rfl))).to (Dat.whole_eq i)) hz q
abbrev sis_between : Stmt := topS 10
theorem scis_between : FnScope ["value", "low", "high"] ["value", "low", "high"] (defScope sis_between) := ⟨rfl, rfl, rfl, by decide +kernel, rfl, by decide +kernel, by decide +kernel⟩
theorem ok_is_between {f : Addr} {fd : FuncData} (F : Df K "is_between" "is_between" sis_between [] f fd) (T : TN mg)  (Fis_whole : Fo P w K mg base "is_whole" 1 ["value"] cWhole.sp) :
    FnOk P w K mg base CX0 2 f fd ["value", "low", "high"] cBetween.sp := by
  refine con_go F scis_between cBetween (fun _ => rfl) fun cdv A outer s H E i G z0 B0 hr hp at0 hz => ⟨_, (pss_one (ps_ret (pe_and (pe_fo Fis_whole (hr.mono (by decide)) (by rfl) (pa_cons (pv 0) pa_nil)) (pe_one (pe_chain op_le op_le (pv 1) (pv 0) (pv 2)))))), fun σ Q en q => ?_⟩
  have n0 := Nx.refl at0
  obtain ⟨d, lo, hi⟩ := i
  exact q_ret at0 n0 en ((ty_andV (y_whole (ty_var rfl)) fun hw => ty_chain (ty_var rfl) ((ty_var (x := d) rfl).intOf hw) (ty_var rfl)).to (Dat.within_eq lo hi d).symm) hz q
abbrev sfits_width : Stmt := topS 11
theorem scfits_width : FnScope ["value"] ["value"] (defScope sfits_width) := ⟨rfl, rfl, rfl, by decide +kernel, rfl, by decide +kernel, by decide +kernel⟩
theorem ok_fits_width {f : Addr} {fd : FuncData} (F : Df K "fits_width" "fits_width" sfits_width [] f fd) (T : TN mg) (W : ∃ t, mg "WIDEST" = some (.int 64 t)) (Fis_between : Fo P w K mg base "is_between" 2 ["value", "low", "high"] cBetween.sp) :
    FnOk P w K mg base CX0 3 f fd ["value"] cFitsWidth.sp := by
  obtain ⟨tk, mW⟩ := W
  refine con_go F scfits_width cFitsWidth (fun _ => rfl) fun cdv A outer s H E i G z0 B0 hr hp at0 hz => ⟨_, (pss_one (ps_ret (pe_fo Fis_between (hr.mono (by decide)) (by rfl) (pa_cons (pv 0) (pa_cons pe_int (pa_cons (pe_glob (v := .int 64) (by rfl) mW ⟨_, rfl⟩) pa_nil)))))), fun σ Q en q => ?_⟩
  have n0 := Nx.refl at0
  exact q_ret at0 n0 en (y_between (ty_var rfl) ty_i ty_i) hz q
abbrev sfits_word : Stmt := topS 12
theorem scfits_word : FnScope ["width", "value"] ["width", "value"] (defScope sfits_word) := ⟨rfl, rfl, rfl, by decide +kernel, rfl, by decide +kernel, by decide +kernel⟩
theorem ok_fits_word {f : Addr} {fd : FuncData} (F : Df K "fits_word" "fits_word" sfits_word [] f fd) (T : TN mg)  (Fis_between : Fo P w K mg base "is_between" 2 ["value", "low", "high"] cBetween.sp) :
    FnOk P w K mg base CX0 3 f fd ["width", "value"] cFitsWord.sp := by
  refine con_go F scfits_word cFitsWord (fun _ => rfl) fun cdv A outer s H E i G z0 B0 hr hp at0 hz => ⟨_, (pss_one (ps_ret (pe_fo Fis_between (hr.mono (by decide)) (by rfl) (pa_cons (pv 1) (pa_cons pe_int (pa_cons (pe_op op_sub (pe_op op_shl pe_int (pv 0)) pe_int) pa_nil)))))), fun σ Q en q => ?_⟩
  have n0 := Nx.refl at0
  obtain ⟨wd, d⟩ := i
  have hw : 1 ≤ wd ∧ wd ≤ 64 := hp
  exact q_ret at0 n0 en (y_between (ty_var rfl) ty_i (ty_I0 (ty_shl (ty_var rfl) ⟨by omega, by omega⟩) ty_i)) hz q
abbrev stwos_of : Stmt := topS 13
theorem sctwos_of : FnScope ["number"] ["number"] (defScope stwos_of) := ⟨rfl, rfl, rfl, by decide +kernel, rfl, by decide +kernel, by decide +kernel⟩
theorem ok_twos_of {f : Addr} {fd : FuncData} (F : Df K "twos_of" "twos_of" stwos_of [] f fd) (T : TN mg)   :
    FnOk P w K mg base CX0 1 f fd ["number"] cTwosIn.sp := by
  refine con_go F sctwos_of cTwosIn (fun _ => rfl) fun cdv A outer s H E i G z0 B0 hr hp at0 hz => ⟨_, (pss_one (ps_ret (pe_op op_sub (pe_bits (pe_op op_and (pv 0) (pe_un un_neg (pv 0)))) pe_int))), fun σ Q en q => ?_⟩
  have n0 := Nx.refl at0
  have h0 : i ≠ 0 := hp
  exact q_ret at0 n0 en ((ty_I0 (f := fun a b => a - b) (ty_bits (ty_I0 (f := Builtin.bitAnd) (ty_var (x := i) rfl) (ty_neg (ty_var (x := i) rfl)))) ty_i).to (twos_bits h0)) hz q
abbrev sare_wholes : Stmt := topS 14
theorem scare_wholes : FnScope ["value", "number"] ["value"] (defScope sare_wholes) := ⟨rfl, rfl, rfl, by decide +kernel, rfl, by decide +kernel, by decide +kernel⟩
theorem ok_are_wholes {f : Addr} {fd : FuncData} (F : Df K "are_wholes" "are_wholes" sare_wholes [] f fd) (T : TN mg)  (Fis_whole : Fo P w K mg base "is_whole" 1 ["value"] cWhole.sp) :
    FnOk P w K mg base CX0 2 f fd ["value"] cAreWholes.sp := by
  refine con_go F scare_wholes cAreWholes (fun _ => rfl) fun cdv A outer s H E i G z0 B0 hr hp at0 hz => ⟨_, (pss_one (ps_ret (pe_and (pe_callB (r := rIsi K) call_isi (by rfl) T.b_isinstance (by decide +kernel) (pa_cons (pv 0) (pa_cons (pe_bltn (v := .ty "list") (by rfl) T.b_list (by decide +kernel) rfl) pa_nil))) (pe_one (pe_callB (r := rAll K) (cr_all rfl) (by rfl) T.b_all (by decide +kernel) (pa_cons (pe_lc (own := [("number", 1)]) rfl scare_wholes.nd (pi_list (pv 0)) (blkOk_by (own := [("number", 1)]) (N := ["value", "number"]) (sc := defScope sare_wholes) (by decide +kernel)) (fun _ _ _ _ _ => (pg_name (i := 1) scare_wholes.nd rfl (Or.inl rfl))) (fun _ _ _ _ _ => pts_nil) (fun _ _ _ _ _ => (pe_fo Fis_whole (hr.mono (by decide)) (by rfl) (pa_cons (pv 1) pa_nil)))) pa_nil)))))), fun σ Q en q => ?_⟩
  have n0 := Nx.refl at0
  have sm : i.small := hp
  refine q_ret at0 n0 en ((ty_andV (c2 := 0) (b := wholesB i) (ty_isi .list (ty_var rfl)) fun hl => ?_).to (by cases i <;> rfl)) hz q
  cases i with
  | lst ds =>
    exact (ty_all (ty_lcM ((ty_var rfl).lstDat) (Nat.le_trans sm (by decide)) (by simp) fun x hx => y_whole (ty_var rfl))).to (by rw [List.all_map]; rfl)
  | _ => cases hl
abbrev sare_words : Stmt := topS 15
theorem scare_words : FnScope ["width", "value", "word"] ["width", "value"] (defScope sare_words) := ⟨rfl, rfl, rfl, by decide +kernel, rfl, by decide +kernel, by decide +kernel⟩
theorem ok_are_words {f : Addr} {fd : FuncData} (F : Df K "are_words" "are_words" sare_words [] f fd) (T : TN mg)  (Ffits_word : Fo P w K mg base "fits_word" 3 ["width", "value"] cFitsWord.sp) :
    FnOk P w K mg base CX0 4 f fd ["width", "value"] cAreWords.sp := by
  refine con_go F scare_words cAreWords (fun _ => rfl) fun cdv A outer s H E i G z0 B0 hr hp at0 hz => ⟨_, (pss_one (ps_ret (pe_and (pe_callB (r := rIsi K) call_isi (by rfl) T.b_isinstance (by decide +kernel) (pa_cons (pv 1) (pa_cons (pe_bltn (v := .ty "list") (by rfl) T.b_list (by decide +kernel) rfl) pa_nil))) (pe_one (pe_callB (r := rAll K) (cr_all rfl) (by rfl) T.b_all (by decide +kernel) (pa_cons (pe_lc (own := [("word", 2)]) rfl scare_words.nd (pi_list (pv 1)) (blkOk_by (own := [("word", 2)]) (N := ["width", "value", "word"]) (sc := defScope sare_words) (by decide +kernel)) (fun _ _ _ _ _ => (pg_name (i := 2) scare_words.nd rfl (Or.inl rfl))) (fun _ _ _ _ _ => pts_nil) (fun _ _ _ _ _ => (pe_fo Ffits_word (hr.mono (by decide)) (by rfl) (pa_cons (pv 0) (pa_cons (pv 2) pa_nil))))) pa_nil)))))), fun σ Q en q => ?_⟩
  have n0 := Nx.refl at0
  obtain ⟨wd, d⟩ := i
  obtain ⟨hw, sm⟩ := hp
  refine q_ret at0 n0 en ((ty_andV (c2 := 0) (b := wordsB wd d) (ty_isi .list (ty_var rfl)) fun hl => ?_).to (by cases d <;> rfl)) hz q
  cases d with
  | lst ds =>
    exact (ty_all (ty_lcM ((ty_var rfl).lstDat) (Nat.le_trans sm (by decide)) (by simp) fun x hx => y_fitsWord (ty_var rfl) (ty_var rfl) hw)).to (by rw [List.all_map]; rfl)
  | _ => cases hl
abbrev sclimbs : Stmt := topS 16
theorem scclimbs : FnScope ["numbers", "k"] ["numbers"] (defScope sclimbs) := ⟨rfl, rfl, rfl, by decide +kernel, rfl, by decide +kernel, by decide +kernel⟩
theorem ok_climbs {f : Addr} {fd : FuncData} (F : Df K "climbs" "climbs" sclimbs [] f fd) (T : TN mg)   :
    FnOk P w K mg base CX0 1 f fd ["numbers"] cClimbs.sp := by
  refine con_go F scclimbs cClimbs (fun _ => rfl) fun cdv A outer s H E i G z0 B0 hr hp at0 hz => ⟨_, (pss_one (ps_ret (pe_callB (r := rAll K) (cr_all rfl) (by rfl) T.b_all (by decide +kernel) (pa_cons (pe_lc (own := [("k", 1)]) rfl scclimbs.nd (pi_range2 (by rfl) T.b_range (pa_cons pe_int (pa_cons (pe_callB (r := rLenS K) call_len_seq (by rfl) T.b_len (by decide +kernel) (pa_cons (pv 0) pa_nil)) pa_nil))) (blkOk_by (own := [("k", 1)]) (N := ["numbers", "k"]) (sc := defScope sclimbs) (by decide +kernel)) (fun _ _ _ _ _ => (pg_name (i := 1) scclimbs.nd rfl (Or.inl rfl))) (fun _ _ _ _ _ => pts_nil) (fun _ _ _ _ _ => (pe_cmpR op_lt (pe_ix (r := rIxL K) ix_list (pv 0) (pe_op op_sub (pv 1) pe_int) (fun _ _ => rfl)) (pe_ix (r := rIxL K) ix_list (pv 0) (pv 1) (fun _ _ => rfl)) (nomark _)))) pa_nil)))), fun σ Q en q => ?_⟩
  have n0 := Nx.refl at0
  have sm : i.length ≤ 30000 := hp
  refine q_ret at0 n0 en ((ty_all (ty_lcR2 (p := fun _ => true) (f := fun x : Int => decide (i.getD (x - 1).toNat 0 < i.getD x.toNat 0)) (ta_cons ty_i (ta_cons (ty_len (ty_var rfl)) ta_nil)) (by decide) ⟨by omega, by omega⟩ (by omega) (by simp) (fun x _ _ => tt_yes) fun x h1 h2 _ => ?_)).to (climbs_eq i)) hz q
  exact ty_B0 (ty_ix (ty_var rfl) (ty_I0 (ty_var rfl) ty_i) (atI_in (by omega) (by omega))) (ty_ix (ty_var rfl) (ty_var rfl) (atI_in (by omega) h2))
abbrev sare_places : Stmt := topS 17
theorem scare_places : FnScope ["width", "value"] ["width", "value"] (defScope sare_places) := ⟨rfl, rfl, rfl, by decide +kernel, rfl, by decide +kernel, by decide +kernel⟩
theorem ok_are_places {f : Addr} {fd : FuncData} (F : Df K "are_places" "are_places" sare_places [] f fd) (T : TN mg)  (Fare_words : Fo P w K mg base "are_words" 4 ["width", "value"] cAreWords.sp) (Fclimbs : Fo P w K mg base "climbs" 1 ["numbers"] cClimbs.sp) :
    FnOk P w K mg base CX0 5 f fd ["width", "value"] cArePlaces.sp := by
  refine con_go F scare_places cArePlaces (fun _ => rfl) fun cdv A outer s H E i G z0 B0 hr hp at0 hz => ⟨_, (pss_one (ps_ret (pe_and (pe_fo Fare_words (hr.mono (by decide)) (by rfl) (pa_cons (pv 0) (pa_cons (pv 1) pa_nil))) (pe_and (pe_cmpR op_gt (pe_callB (r := rLenS K) call_len_seq (by rfl) T.b_len (by decide +kernel) (pa_cons (pv 1) pa_nil)) pe_int (nomark _)) (pe_one (pe_fo Fclimbs (hr.mono (by decide)) (by rfl) (pa_cons (pv 1) pa_nil))))))), fun σ Q en q => ?_⟩
  have n0 := Nx.refl at0
  obtain ⟨wd, d⟩ := i
  obtain ⟨hw, sm⟩ := hp
  refine q_ret at0 n0 en ((ty_andV (c2 := 0) (b := placesB wd d) (y_areWords (ty_var rfl) (ty_var rfl) ⟨hw, sm⟩) fun h => ?_).to (by cases d <;> first | rfl | (show (wordsB wd _ && placesB wd _) = placesB wd _; unfold wordsB placesB; dsimp only; rw [← Bool.and_assoc, Bool.and_self]))) hz q
  cases d with
  | lst ds =>
    have all : ds.all (Dat.word wd) = true := h
    have sm' : ds.length ≤ 30000 := sm
    have tyw : Ty G 0 (tVar 1) (ctx0 2 (cArePlaces.args (wd, .lst ds))) (· = ds.map Dat.toI) := (ty_var (x := Dat.lst ds) rfl).intsOf (words_whole all)
    refine (ty_andV (ty_B0 (ty_len ((ty_var (x := Dat.lst ds) rfl).lstDat)) ty_i) fun _ => y_climbs tyw (by rw [List.length_map]; exact sm')).to ?_
    show (decide ((0 : Int) < (ds.length : Int)) && climbs (ds.map Dat.toI)) = (ds.all (Dat.word wd) && (decide (0 < ds.length) && climbs (ds.map Dat.toI)))
    rw [all, Bool.true_and, decide_eq_decide.mpr (show (0 : Int) < (ds.length : Int) ↔ 0 < ds.length by omega)]
  | _ => cases h
abbrev sare_words_at : Stmt := topS 18
theorem scare_words_at : FnScope ["width", "places", "value"] ["width", "places", "value"] (defScope sare_words_at) := ⟨rfl, rfl, rfl, by decide +kernel, rfl, by decide +kernel, by decide +kernel⟩
theorem ok_are_words_at {f : Addr} {fd : FuncData} (F : Df K "are_words_at" "are_words_at" sare_words_at [] f fd) (T : TN mg)  (Fare_words : Fo P w K mg base "are_words" 4 ["width", "value"] cAreWords.sp) :
    FnOk P w K mg base CX0 5 f fd ["width", "places", "value"] cWordsAt.sp := by
  refine con_go F scare_words_at cWordsAt (fun _ => rfl) fun cdv A outer s H E i G z0 B0 hr hp at0 hz => ⟨_, (pss_one (ps_ret (pe_and (pe_fo Fare_words (hr.mono (by decide)) (by rfl) (pa_cons (pv 0) (pa_cons (pv 2) pa_nil))) (pe_one (pe_cmpR op_eq (pe_callB (r := rLenS K) call_len_seq (by rfl) T.b_len (by decide +kernel) (pa_cons (pv 2) pa_nil)) (pe_callB (r := rLenS K) call_len_seq (by rfl) T.b_len (by decide +kernel) (pa_cons (pv 1) pa_nil)) (nomark _)))))), fun σ Q en q => ?_⟩
  have n0 := Nx.refl at0
  obtain ⟨wd, ps, d⟩ := i
  obtain ⟨hw, sm⟩ := hp
  refine q_ret at0 n0 en ((ty_andV (c2 := 0) (b := wordsAtB wd ps.length d) (y_areWords (ty_var rfl) (ty_var rfl) ⟨hw, sm⟩) fun h => ?_).to (by cases d <;> first | rfl | (show (wordsB wd _ && wordsAtB wd _ _) = wordsAtB wd _ _; unfold wordsB wordsAtB; dsimp only; rw [← Bool.and_assoc, Bool.and_self]))) hz q
  cases d with
  | lst ds =>
    have all : ds.all (Dat.word wd) = true := h
    refine (ty_eqI (ty_len ((ty_var (x := Dat.lst ds) rfl).lstDat)) (ty_len (ty_var (x := ps) rfl))).to ?_
    show decide ((ds.length : Int) = (ps.length : Int)) = (ds.all (Dat.word wd) && decide (ds.length = ps.length))
    rw [all, Bool.true_and, decide_eq_decide.mpr (show (ds.length : Int) = (ps.length : Int) ↔ ds.length = ps.length by omega)]
  | _ => cases h
abbrev sneed_width : Stmt := topS 20
theorem scneed_width : FnScope ["width"] ["width"] (defScope sneed_width) := ⟨rfl, rfl, rfl, by decide +kernel, rfl, by decide +kernel, by decide +kernel⟩
theorem ok_need_width {f : Addr} {fd : FuncData} (F : Df K "need_width" "need_width" sneed_width [] f fd) (T : TN mg)  (Ffits_width : Fo P w K mg base "fits_width" 3 ["value"] cFitsWidth.sp) :
    FnOk P w K mg base CX0 4 f fd ["width"] cNeedWidth.sp := by
  refine con_go F scneed_width cNeedWidth (fun _ => rfl) fun cdv A outer s H E i G z0 B0 hr hp at0 hz => ⟨_, (pss_one (ps_if (pt_not (pt_val (pe_fo Ffits_width (hr.mono (by decide)) (by rfl) (pa_cons (pv 0) pa_nil)))) (pss_one ps_never) pss_nil)), fun σ Q en q => ?_⟩
  have n0 := Nx.refl at0
  have hw : 1 ≤ i ∧ i ≤ 64 := hp
  refine s_not at0 n0 en ((tt_notD (tt_B (y_fitsWidth ((ty_var (x := i) rfl).datInt)))).to ?_) hz fun z' B' H' _ n en => q () .non z' B' H' trivial n rfl
  show (!(decide ((1 : Int) ≤ i) && decide (i ≤ 64))) = false
  rw [decide_eq_true hw.1, decide_eq_true hw.2] <;> rfl
abbrev sneed_places : Stmt := topS 21
theorem scneed_places : FnScope ["width", "places"] ["width", "places"] (defScope sneed_places) := ⟨rfl, rfl, rfl, by decide +kernel, rfl, by decide +kernel, by decide +kernel⟩
theorem ok_need_places {f : Addr} {fd : FuncData} (F : Df K "need_places" "need_places" sneed_places [] f fd) (T : TN mg)  (Fare_places : Fo P w K mg base "are_places" 5 ["width", "value"] cArePlaces.sp) :
    FnOk P w K mg base CX0 6 f fd ["width", "places"] cNeedPlaces.sp := by
  refine con_go F scneed_places cNeedPlaces (fun _ => rfl) fun cdv A outer s H E i G z0 B0 hr hp at0 hz => ⟨_, (pss_one (ps_if (pt_not (pt_val (pe_fo Fare_places (hr.mono (by decide)) (by rfl) (pa_cons (pv 0) (pa_cons (pv 1) pa_nil))))) (pss_one ps_never) pss_nil)), fun σ Q en q => ?_⟩
  have n0 := Nx.refl at0
  obtain ⟨wd, ps⟩ := i
  obtain ⟨hw, hpl, sm⟩ := hp
  refine s_not at0 n0 en ((tt_notD (tt_B (y_arePlaces (ty_var rfl) ((ty_var (x := ps) rfl).datInts.datLst) ⟨hw, by show (ps.map Dat.int).length ≤ 30000; rw [List.length_map]; exact sm⟩))).to ?_) hz fun z' B' H' _ n en => q () .non z' B' H' trivial n rfl
  rw [hpl] <;> rfl
abbrev sneed_whole : Stmt := topS 22
theorem scneed_whole : FnScope ["number"] ["number"] (defScope sneed_whole) := ⟨rfl, rfl, rfl, by decide +kernel, rfl, by decide +kernel, by decide +kernel⟩
theorem ok_need_whole {f : Addr} {fd : FuncData} (F : Df K "need_whole" "need_whole" sneed_whole [] f fd) (T : TN mg)  (Fis_whole : Fo P w K mg base "is_whole" 1 ["value"] cWhole.sp) :
    FnOk P w K mg base CX0 2 f fd ["number"] cNeedWhole.sp := by
  refine con_go F scneed_whole cNeedWhole (fun _ => rfl) fun cdv A outer s H E i G z0 B0 hr hp at0 hz => ⟨_, (pss_one (ps_if (pt_not (pt_val (pe_fo Fis_whole (hr.mono (by decide)) (by rfl) (pa_cons (pv 0) pa_nil)))) (pss_one ps_never) pss_nil)), fun σ Q en q => ?_⟩
  have n0 := Nx.refl at0
  refine s_not at0 n0 en ((tt_notD (tt_B (y_whole ((ty_var (x := i) rfl).datInt)))).to rfl) hz fun z' B' H' _ n en => q () .non z' B' H' trivial n rfl
abbrev sneed_words : Stmt := topS 23
theorem scneed_words : FnScope ["width", "places", "words"] ["width", "places", "words"] (defScope sneed_words) := ⟨rfl, rfl, rfl, by decide +kernel, rfl, by decide +kernel, by decide +kernel⟩
theorem ok_need_words {f : Addr} {fd : FuncData} (F : Df K "need_words" "need_words" sneed_words [] f fd) (T : TN mg)  (Fare_words_at : Fo P w K mg base "are_words_at" 5 ["width", "places", "value"] cWordsAt.sp) :
    FnOk P w K mg base CX0 6 f fd ["width", "places", "words"] cNeedWords.sp := by
  refine con_go F scneed_words cNeedWords (fun _ => rfl) fun cdv A outer s H E i G z0 B0 hr hp at0 hz => ⟨_, (pss_one (ps_if (pt_not (pt_val (pe_fo Fare_words_at (hr.mono (by decide)) (by rfl) (pa_cons (pv 0) (pa_cons (pv 1) (pa_cons (pv 2) pa_nil)))))) (pss_one ps_never) pss_nil)), fun σ Q en q => ?_⟩
  have n0 := Nx.refl at0
  obtain ⟨wd, ps, ws⟩ := i
  obtain ⟨hw, ok, sm⟩ := hp
  refine s_not at0 n0 en ((tt_notD (tt_B (y_wordsAt (ty_var (x := wd) rfl) (ty_var (x := ps) rfl) (ty_var (x := ws) rfl).datInts.datLst ⟨hw, by show (ws.map Dat.int).length ≤ 30000; rw [List.length_map]; exact sm⟩))).to (by rw [ok] <;> rfl)) hz fun z' B' H' _ n en => q () .non z' B' H' trivial n rfl
abbrev sneed_coefficients : Stmt := topS 26
theorem scneed_coefficients : FnScope ["coefficients"] ["coefficients"] (defScope sneed_coefficients) := ⟨rfl, rfl, rfl, by decide +kernel, rfl, by decide +kernel, by decide +kernel⟩
theorem ok_need_coefficients {f : Addr} {fd : FuncData} (F : Df K "need_coefficients" "need_coefficients" sneed_coefficients [] f fd) (T : TN mg)  (Fare_wholes : Fo P w K mg base "are_wholes" 2 ["value"] cAreWholes.sp) :
    FnOk P w K mg base CX0 3 f fd ["coefficients"] cNeedCoeffs.sp := by
  refine con_go F scneed_coefficients cNeedCoeffs (fun _ => rfl) fun cdv A outer s H E i G z0 B0 hr hp at0 hz => ⟨_, (pss_one (ps_if (pt_not (pt_val (pe_fo Fare_wholes (hr.mono (by decide)) (by rfl) (pa_cons (pv 0) pa_nil)))) (pss_one ps_never) pss_nil)), fun σ Q en q => ?_⟩
  have n0 := Nx.refl at0
  have sm : i.length ≤ 30000 := hp
  refine s_not at0 n0 en ((tt_notD (tt_B (y_areWholes (ty_var (x := i) rfl).datInts.datLst (by show (i.map Dat.int).length ≤ 30000; rw [List.length_map]; exact sm)))).to (by rw [wholes_ints] <;> rfl)) hz fun z' B' H' _ n en => q () .non z' B' H' trivial n rfl
abbrev sworth_at : Stmt := topS 27
theorem scworth_at : FnScope ["width", "coefficients", "number", "mask", "worth", "coefficient"] ["width", "coefficients", "number"] (defScope sworth_at) := ⟨rfl, rfl, rfl, by decide +kernel, rfl, by decide +kernel, by decide +kernel⟩
theorem ok_worth_at {f : Addr} {fd : FuncData} (F : Df K "worth_at" "worth_at" sworth_at [] f fd) (T : TN mg)   :
    FnOk P w K mg base CX0 1 f fd ["width", "coefficients", "number"] cWorth.sp := by
  refine con_go F scworth_at cWorth (fun _ => rfl) fun cdv A outer s H E i G z0 B0 hr hp at0 hz => ⟨_, (pss_cons (ps_set (i := 3) scworth_at.nd rfl (.inl rfl) (pe_op op_sub (pe_op op_shl pe_int (pv 0)) pe_int))
     (pss_cons (ps_set (i := 4) scworth_at.nd rfl (.inl rfl) pe_int)
     (pss_cons (ps_for PassesOwn.never rfl (RT.pi_revA (by rfl) T.b_reversed (pv 1)) (pg_name (i := 5) scworth_at.nd rfl (.inl rfl))
      (pss_one (ps_set (i := 4) scworth_at.nd rfl (.inl rfl) (pe_op op_and (pe_op op_add (pe_op op_mulW (pv 4) (pv 2)) (pv 5)) (pv 3)))))
     (pss_one (ps_ret (pv 4)))))), fun σ Q en q => ?_⟩
  have n0 := Nx.refl at0
  obtain ⟨wd, cs, x⟩ := i
  obtain ⟨hw, ⟨lc, bc⟩, bx⟩ := hp
  have hw : 1 ≤ wd ∧ wd ≤ 64 := hw
  have lc : cs.length ≤ 1000 := lc
  have bx : x.natAbs < 2 ^ 250 := bx
  have hz1 : z0 + 0 ≤ 2 ^ 50 := hz
  obtain ⟨tp, tp2⟩ := two_pow wd (by omega) (by omega)
  refine q_asgS at0 n0 en (i := 3) (ty_I0 (f := fun a b => a - b) (ty_shl (ty_var (x := wd) rfl) ⟨by omega, by omega⟩) ty_i) hz fun mask z' B' H' σ' em _ n en => ?_
  subst em
  refine q_asgS at0 n en (i := 4) ty_i hz1 fun worth z' B' H' σ' em _ n en => ?_
  subst em
  refine q_forS at0 n en (cb := 0) (ti_rev (ty_var (x := cs) rfl)) hz1 (fun k Γ _ _ => ∃ o5 : Option VP, Γ = [some (Py.is wd), some (Py.is cs), some (Py.is x), some (Py.is ((2 : Int) ^ wd.toNat - 1)), some (Py.is (polyS (cs.drop (cs.length - k)) x % 2 ^ wd.toNat)), o5])
    (fun _ _ _ _ _ => ⟨none, by rw [Nat.sub_zero, List.drop_length]; show _ = [_, _, _, _, some (Py.is ((0 : Int) % 2 ^ wd.toNat)), _]; rw [Int.zero_emod] <;> rfl⟩) (fun _ _ _ _ _ h _ => h) (fun m em Bs k Γ' z' B' H' σ' hk inv eb n en => ?_) fun m em Γ' z' B' H' σ' inv n en => ?_
  · obtain ⟨o5, rfl⟩ := inv
    subst em
    have hj : cs.length - 1 - k < cs.length := by omega
    have e := List.getElem?_eq_getElem hj
    have en : Slo B' σ' [some (Py.is wd), some (Py.is cs), some (Py.is x), some (Py.is ((2 : Int) ^ wd.toNat - 1)), some (Py.is (polyS (cs.drop (cs.length - k)) x % 2 ^ wd.toNat)), some (itm cs (cs.length - 1 - k))] := en
    rw [itm_eq e] at en
    have r0 := Int.emod_nonneg (polyS (cs.drop (cs.length - k)) x) (show (2 : Int) ^ wd.toNat ≠ 0 by omega)
    have r1 := Int.emod_lt_of_pos (polyS (cs.drop (cs.length - k)) x) tp
    have e200 : ((2 : Int) ^ 200) = ((2 ^ 200 : Nat) : Int) := by norm_cast
    have rb : (polyS (cs.drop (cs.length - k)) x % 2 ^ wd.toNat).natAbs < 2 ^ 200 := by omega
    refine q_asg at0 n en (i := 4) (ty_I0 (f := Builtin.bitAnd) (ty_I0 (f := fun a b => a + b) (ty_I (C := CMulW) (f := fun a b => a * b) (ty_var (x := polyS (cs.drop (cs.length - k)) x % 2 ^ wd.toNat) rfl) (ty_var (x := x) rfl) (wide_mul rb bx (by decide) (by decide) (by decide))) (ty_var (x := cs[cs.length - 1 - k]) rfl)) (ty_var (x := (2 : Int) ^ wd.toNat - 1) rfl)) (by simpa using hz1) fun y z' B' H' σ' ey s' n en => ⟨_, z', B', ⟨some (Py.is cs[cs.length - 1 - k]), ?_⟩, eb.trans s'.up, n.le (by simp), en⟩
    have ey : y = polyS (cs.drop (cs.length - (k + 1))) x % 2 ^ wd.toNat := by
      rw [ey, mask_any, show cs.length - (k + 1) = cs.length - 1 - k by omega, List.drop_eq_getElem_cons hj, show cs.length - 1 - k + 1 = cs.length - k by omega]
      show _ = (cs[cs.length - 1 - k] + x * polyS _ x) % _
      rw [Int.add_emod, Int.mul_emod, Int.emod_emod, ← Int.mul_emod, ← Int.add_emod, Int.mul_comm, Int.add_comm]
    subst ey
    rfl
  · obtain ⟨o5, rfl⟩ := inv
    subst em
    exact q_ret at0 n en ((ty_var (x := polyS (cs.drop (cs.length - cs.length)) x % 2 ^ wd.toNat) rfl).to (by rw [Nat.sub_self, List.drop_zero])) (by simpa using hz1) fun x v z' B' H' e n h => q x v z' B' H' e (n.le (by simp)) h
abbrev sword_at : Stmt := topS 28
theorem scword_at : FnScope ["width", "coefficients", "number"] ["width", "coefficients", "number"] (defScope sword_at) := ⟨rfl, rfl, rfl, by decide +kernel, rfl, by decide +kernel, by decide +kernel⟩
theorem ok_word_at {f : Addr} {fd : FuncData} (F : Df K "word_at" "word_at" sword_at [] f fd) (T : TN mg)  (Fneed_width : Fo P w K mg base "need_width" 4 ["width"] cNeedWidth.sp) (Fneed_coefficients : Fo P w K mg base "need_coefficients" 3 ["coefficients"] cNeedCoeffs.sp) (Fneed_whole : Fo P w K mg base "need_whole" 2 ["number"] cNeedWhole.sp) (Fworth_at : Fo P w K mg base "worth_at" 1 ["width", "coefficients", "number"] cWorth.sp) :
    FnOk P w K mg base CX0 5 f fd ["width", "coefficients", "number"] cWorth.sp := by
  refine con_go F scword_at cWorth (fun _ => rfl) fun cdv A outer s H E i G z0 B0 hr hp at0 hz => ⟨_, (pss_cons (ps_expr (pe_fo Fneed_width (hr.mono (by decide)) (by rfl) (pa_cons (pv 0) pa_nil)))
     (pss_cons (ps_expr (pe_fo Fneed_coefficients (hr.mono (by decide)) (by rfl) (pa_cons (pv 1) pa_nil)))
     (pss_cons (ps_expr (pe_fo Fneed_whole (hr.mono (by decide)) (by rfl) (pa_cons (pv 2) pa_nil)))
     (pss_one (ps_ret (pe_fo Fworth_at (hr.mono (by decide)) (by rfl) (pa_cons (pv 0) (pa_cons (pv 1) (pa_cons (pv 2) pa_nil))))))))), fun σ Q en q => ?_⟩
  have n0 := Nx.refl at0
  obtain ⟨wd, cs, x⟩ := i
  obtain ⟨hw, hc, bx⟩ := hp
  refine q_dropS at0 n0 en (y_needWidth (ty_var (x := wd) rfl) hw) hz fun _ z' B' H' _ _ n en => q_dropS at0 n en (y_needCoeffs (ty_var (x := cs) rfl) (Nat.le_trans hc.1 (by decide))) hz fun _ z' B' H' _ _ n en => q_dropS at0 n en (y_needWhole (ty_var (x := x) rfl)) hz fun _ z' B' H' _ _ n en => q_ret at0 n en (y_worth (ty_var (x := wd) rfl) (ty_var (x := cs) rfl) (ty_var (x := x) rfl) ⟨hw, hc, bx⟩) hz q
abbrev swords_at : Stmt := topS 29
theorem scwords_at : FnScope ["width", "coefficients", "places", "place"] ["width", "coefficients", "places"] (defScope swords_at) := ⟨rfl, rfl, rfl, by decide +kernel, rfl, by decide +kernel, by decide +kernel⟩
theorem ok_words_atN {f : Addr} {fd : FuncData} (F : Df K "words_at" "words_at" swords_at [] f fd) (T : TN mg)  (Fneed_width : Fo P w K mg base "need_width" 4 ["width"] cNeedWidth.sp) (Fneed_coefficients : Fo P w K mg base "need_coefficients" 3 ["coefficients"] cNeedCoeffs.sp) (Fneed_places : Fo P w K mg base "need_places" 6 ["width", "places"] cNeedPlaces.sp) (Fworth_at : Fo P w K mg base "worth_at" 1 ["width", "coefficients", "number"] cWorth.sp) :
    FnOk P w K mg base CX0 7 f fd ["width", "coefficients", "places"] cWordsOf.spN := by
  refine con_goN F scwords_at cWordsOf (fun _ => rfl) fun cdv A outer s H E i G z0 B0 hr hp at0 hz => ⟨_, (pss_cons (ps_expr (pe_fo Fneed_width (hr.mono (by decide)) (by rfl) (pa_cons (pv 0) pa_nil)))
     (pss_cons (ps_expr (pe_fo Fneed_coefficients (hr.mono (by decide)) (by rfl) (pa_cons (pv 1) pa_nil)))
     (pss_cons (ps_expr (pe_fo Fneed_places (hr.mono (by decide)) (by rfl) (pa_cons (pv 0) (pa_cons (pv 2) pa_nil))))
     (pss_one (ps_ret (pe_lc (own := [("place", 3)]) rfl scwords_at.nd (pi_list (pv 2)) (blkOk_by (own := [("place", 3)]) (N := ["width", "coefficients", "places", "place"]) (sc := defScope swords_at) (by decide +kernel)) (fun _ _ _ _ _ => (pg_name (i := 3) scwords_at.nd rfl (Or.inl rfl))) (fun _ _ _ _ _ => pts_nil) (fun _ _ _ _ _ => (pe_fo Fworth_at (hr.mono (by decide)) (by rfl) (pa_cons (pv 0) (pa_cons (pv 1) (pa_cons (pv 3) pa_nil))))))))))), fun σ Q en q => ?_⟩
  have n0 := Nx.refl at0
  obtain ⟨wd, cs, ps⟩ := i
  obtain ⟨hw, hc, hpl⟩ := hp
  have sm : ps.length ≤ 30000 := hpl.2
  have hz1 : z0 + 0 ≤ 2 ^ 50 := hz
  have gd : ∀ k, k < ps.length → ps[k]? = some (ps.getD k 0) := fun k hk => by rw [List.getD_eq_getElem?_getD, List.getElem?_eq_getElem hk] <;> rfl
  refine q_dropS at0 n0 en (y_needWidth (ty_var (x := wd) rfl) hw) hz fun _ z' B' H' _ _ n en => q_dropS at0 n en (y_needCoeffs (ty_var (x := cs) rfl) (Nat.le_trans hc.1 (by decide))) hz fun _ z' B' H' _ _ n en => q_dropS at0 n en (y_needPlaces (ty_var (x := wd) rfl) (ty_var (x := ps) rfl) ⟨hw, hpl⟩) hz fun _ z' B' H' _ _ n en => ?_
  refine q_retN at0 n en ((tn_lc (M := ps.length) (ct := 0) (cb := 0) (T := fun _ b => b = (fun _ => true) (0 : Nat)) (A := fun k y => y = polyS cs (ps.getD k 0) % 2 ^ wd.toNat) (ti_list (ty_var (x := ps) rfl)) (fun m e => Nat.le_of_eq e) (by omega) (by simp) (fun m em k hk => tt_yes) flat_int fun m em k hk _ => ?_).imp (A' := (· = ps.map fun p => polyS cs p % 2 ^ wd.toNat)) fun ys ⟨m, em, sel⟩ => ?_) (by simpa using hz1) fun x v z' B' H' e n h => q x v z' B' H' e (n.le (by simp)) h
  · subst em
    show AP.Ty G 0 _ ((wipeC _ _).set 3 (some (itm ps k))) _
    rw [itm_eq (gd k hk)]
    exact y_worth (ty_var (x := wd) rfl) (ty_var (x := cs) rfl) (ty_var (x := ps.getD k 0) rfl) ⟨hw, hc, (hpl.range hw (List.mem_of_getElem? (gd k hk))).2⟩
  · subst em
    rw [sel_det (fun _ => true) _ (fun _ _ q => q) (fun _ _ q => q) sel, List.filter_eq_self.mpr fun _ _ => rfl]
    refine List.ext_getElem (by simp) fun k h1 h2 => ?_
    simp at h1 h2 ⊢
    rw [List.getElem?_eq_getElem h1] <;> rfl
abbrev sparting_places : Stmt := topS 30
theorem scparting_places : FnScope ["width", "places", "words", "others", "place", "word", "other"] ["width", "places", "words", "others"] (defScope sparting_places) := ⟨rfl, rfl, rfl, by decide +kernel, rfl, by decide +kernel, by decide +kernel⟩
theorem ok_parting_placesN {f : Addr} {fd : FuncData} (F : Df K "parting_places" "parting_places" sparting_places [] f fd) (T : TN mg)  (Fneed_width : Fo P w K mg base "need_width" 4 ["width"] cNeedWidth.sp) (Fneed_places : Fo P w K mg base "need_places" 6 ["width", "places"] cNeedPlaces.sp) (Fneed_words : Fo P w K mg base "need_words" 6 ["width", "places", "words"] cNeedWords.sp) :
    FnOk P w K mg base CX0 7 f fd ["width", "places", "words", "others"] cParting.spN := by
  refine con_goN F scparting_places cParting (fun _ => rfl) fun cdv A outer s H E i G z0 B0 hr hp at0 hz => ⟨_, (pss_cons (ps_expr (pe_fo Fneed_width (hr.mono (by decide)) (by rfl) (pa_cons (pv 0) pa_nil)))
     (pss_cons (ps_expr (pe_fo Fneed_places (hr.mono (by decide)) (by rfl) (pa_cons (pv 0) (pa_cons (pv 1) pa_nil))))
     (pss_cons (ps_expr (pe_fo Fneed_words (hr.mono (by decide)) (by rfl) (pa_cons (pv 0) (pa_cons (pv 1) (pa_cons (pv 2) pa_nil)))))
     (pss_cons (ps_expr (pe_fo Fneed_words (hr.mono (by decide)) (by rfl) (pa_cons (pv 0) (pa_cons (pv 1) (pa_cons (pv 3) pa_nil)))))
     (pss_one (ps_ret (pe_lc (own := [("place", 4), ("word", 5), ("other", 6)]) (g := gTup K 3 (gCons (gName 4) (gCons (gName 5) (gCons (gName 6) gNil)))) rfl scparting_places.nd (pi_zip3 (by rfl) T.b_zip (pa_cons (pv 1) (pa_cons (pv 2) (pa_cons (pv 3) pa_nil)))) (blkOk_by (own := [("place", 4), ("word", 5), ("other", 6)]) (N := ["width", "places", "words", "others", "place", "word", "other"]) (sc := defScope sparting_places) (by decide +kernel)) (fun _ _ _ _ _ => (pg_tup rfl (pgs_cons (pg_name (i := 4) scparting_places.nd rfl (Or.inl rfl)) (pgs_cons (pg_name (i := 5) scparting_places.nd rfl (Or.inl rfl)) (pgs_cons (pg_name (i := 6) scparting_places.nd rfl (Or.inl rfl)) pgs_nil))))) (fun _ _ _ _ _ => (pts_one (pt_cmpR op_ne (pv 5) (pv 6) (nomark _)))) (fun _ _ _ _ _ => (pv 4))))))))), fun σ Q en q => ?_⟩
  have n0 := Nx.refl at0
  obtain ⟨wd, ps, ws, os⟩ := i
  obtain ⟨hw, hpl, h1, h2⟩ := hp
  have sm : ps.length ≤ 30000 := hpl.2
  have hz1 : z0 + 0 ≤ 2 ^ 50 := hz
  have l1 : ws.length = ps.length := wsOk.len h1
  have l2 : os.length = ps.length := wsOk.len h2
  have gd : ∀ {xs : List Int} k, k < xs.length → xs[k]? = some (xs.getD k 0) := fun k hk => by rw [List.getD_eq_getElem?_getD, List.getElem?_eq_getElem hk] <;> rfl
  refine q_dropS at0 n0 en (y_needWidth (ty_var (x := wd) rfl) hw) hz fun _ z' B' H' _ _ n en => q_dropS at0 n en (y_needPlaces (ty_var (x := wd) rfl) (ty_var (x := ps) rfl) ⟨hw, hpl⟩) hz fun _ z' B' H' _ _ n en => q_dropS at0 n en (y_needWords (ty_var (x := wd) rfl) (ty_var (x := ps) rfl) (ty_var (x := ws) rfl) ⟨hw, h1⟩) hz fun _ z' B' H' _ _ n en => q_dropS at0 n en (y_needWords (ty_var (x := wd) rfl) (ty_var (x := ps) rfl) (ty_var (x := os) rfl) ⟨hw, h2⟩) hz fun _ z' B' H' _ _ n en => ?_
  refine q_retN at0 n en ((tn_lc (M := ps.length) (ct := 0) (cb := 0) (T := fun k b => b = !decide (ws.getD k 0 = os.getD k 0)) (A := fun k y => y = ps.getD k 0) (ti_zip3 (ta_cons (ty_var (x := ps) rfl) (ta_cons (ty_var (x := ws) rfl) (ta_cons (ty_var (x := os) rfl) ta_nil)))) (fun m e => by omega) (by omega) (by simp) (fun m em k hk => ?_) flat_int fun m em k hk _ => ?_).imp (A' := (· = partsL ps ws os)) fun ys ⟨m, em, sel⟩ => ?_) (by simpa using hz1) fun x v z' B' H' e n h => q x v z' B' H' e (n.le (by simp)) h
  · have hk : k < ps.length := by omega
    show TyT G 0 _ ((((wipeC _ _).set 4 (some (itm ps k))).set 5 (some (itm ws k))).set 6 (some (itm os k))) _
    rw [itm_eq (gd k hk), itm_eq (gd (xs := ws) k (by omega)), itm_eq (gd (xs := os) k (by omega))]
    exact tt_test (ty_neI (ty_var (x := ws.getD k 0) rfl) (ty_var (x := os.getD k 0) rfl))
  · have hk : k < ps.length := by omega
    show AP.Ty G 0 _ ((((wipeC _ _).set 4 (some (itm ps k))).set 5 (some (itm ws k))).set 6 (some (itm os k))) _
    rw [itm_eq (gd k hk), itm_eq (gd (xs := ws) k (by omega)), itm_eq (gd (xs := os) k (by omega))]
    exact ty_var (x := ps.getD k 0) rfl
  · have em : m = ps.length := by omega
    subst em
    exact sel_det _ _ (fun _ _ q => q) (fun _ _ q => q) sel
end
end K02

set_option maxHeartbeats 4000000
namespace K02
open PySem PySem.Spec PyProof.Rows L2 AP Evl

/-! what the law's own helpers say -/
def cYes : Con (Bool × Bool) Bool := ⟨fun i => [Py.is i.1, Py.is i.2], nop, fun _ => 0, fun i b => b = decide (i.1 = i.2)⟩
/-- ascending words -/
def Asc (w : Int) (ps : List Int) : Prop := 0 < ps.length ∧ ps.length ≤ 100 ∧ (∀ p ∈ ps, 0 ≤ p ∧ p < 2 ^ w.toNat) ∧ ps.Pairwise (· < ·)
def cLPlaces : Con (Addr × Int × Int) (List Int) := ⟨fun i => [Py.is (GenR.mk i.1), Py.is i.2.1, Py.is i.2.2], fun i G => G = some i.1 ∧ wOk i.2.1 ∧ 1 ≤ i.2.2 ∧ i.2.2 ≤ 100, fun _ => 40000, fun i ps => Asc i.2.1 ps⟩
def cLWords : Con (Addr × Int × Int) (List Int) := ⟨fun i => [Py.is (GenR.mk i.1), Py.is i.2.1, Py.is i.2.2], fun i G => G = some i.1 ∧ wOk i.2.1 ∧ 0 ≤ i.2.2 ∧ i.2.2 ≤ 100, fun _ => 40000, fun i ws => ws.length = i.2.2.toNat ∧ ∀ x ∈ ws, 0 ≤ x ∧ x < 2 ^ i.2.1.toNat⟩
def cLKnown : Con (Addr × Int × List Int) (List (Int × Int)) := ⟨fun i => [Py.is (GenR.mk i.1), Py.is i.2.1, Py.is i.2.2], fun i G => G = some i.1 ∧ wOk i.2.1 ∧ i.2.2.length ≤ 100 ∧ ∀ x ∈ i.2.2, 0 ≤ x ∧ x < 2 ^ i.2.1.toNat, fun _ => 80000,
  fun i l => l.length ≤ 100 ∧ ∀ x ∈ l, (0 ≤ x.1 ∧ x.1 < 2 ^ i.2.1.toNat) ∧ (0 ≤ x.2 ∧ x.2 < 2 ^ i.2.1.toNat)⟩
def oddL (w : Int) : List Dat := [.non, .bl true, .int (0 - 1), .int (2 ^ w.toNat), .str "1", .lst [.int 0], .tup [.int 0], .dic, .int (10 ^ 29)]
def cOdd : Con Int (List Dat) := ⟨fun i => [Py.is i], fun i _ => wOk i, fun _ => 0, fun i ds => ds = oddL i⟩
def Small (ds : List Dat) : Prop := ds.length ≤ 1000 ∧ ∀ d ∈ ds, d.small
def cBent : Con (Addr × Int × List Int) (List Dat) := ⟨fun i => [Py.is (GenR.mk i.1), Py.is i.2.1, Py.is i.2.2], fun i G => G = some i.1 ∧ wOk i.2.1 ∧ i.2.2.length ≤ 100, fun _ => 300, fun _ ds => Small ds⟩
def cBentKnown : Con (Addr × Int × List Int × List (Int × Int)) (List Dat) := ⟨fun i => [Py.is (GenR.mk i.1), Py.is i.2.1, Py.is i.2.2.1, Py.is i.2.2.2], fun i G => G = some i.1 ∧ wOk i.2.1 ∧ (0 < i.2.2.1.length ∧ i.2.2.1.length ≤ 100) ∧ i.2.2.2.length ≤ 100, fun _ => 600, fun _ ds => Small ds⟩
def cRight : Con Addr Bool := ⟨fun g => [Py.is (GenR.mk g)], fun g G => G = some g, fun _ => 1000000, fun _ b => b = true⟩
theorem climbs_of {ns : List Int} (h : ns.Pairwise (· < ·)) : climbs ns = true := by
  unfold climbs
  rw [List.all_eq_true]
  intro i hi
  have hi := List.mem_range.mp hi
  have h1 : i < ns.length := by omega
  have h2 : i + 1 < ns.length := by omega
  rw [decide_eq_true_eq, List.getD_eq_getElem?_getD, List.getD_eq_getElem?_getD, List.getElem?_eq_getElem h1, List.getElem?_eq_getElem h2]
  exact List.pairwise_iff_getElem.mp h i (i + 1) h1 h2 (Nat.lt_succ_self i)
theorem word_of {w p : Int} (h : 0 ≤ p ∧ p < 2 ^ w.toNat) : (Dat.int p).word w = true := by
  show (decide (0 ≤ p) && decide (p ≤ 2 ^ w.toNat - 1)) = true
  rw [decide_eq_true h.1, decide_eq_true (by omega)] <;> rfl
theorem Asc.places {w : Int} {ps : List Int} (h : Asc w ps) : Places w ps := by
  refine ⟨?_, by have := h.2.1; omega⟩
  show ((ps.map Dat.int).all (Dat.word w) && (decide (0 < (ps.map Dat.int).length) && climbs ((ps.map Dat.int).map Dat.toI))) = true
  rw [List.map_map, List.length_map, decide_eq_true h.1, show ps.map (Dat.toI ∘ Dat.int) = ps from List.map_id _, climbs_of h.2.2.2, List.all_map]
  simp only [Bool.and_true, List.all_eq_true]
  exact fun x hx => word_of (h.2.2.1 x hx)
theorem add_new (found : List Int) (x : Int) : found ++ (List.replicate (if (!decide (x ∈ found)) = true then (1 : Int) else 0).toNat [x]).flatten = if x ∈ found then found else found ++ [x] := by
  by_cases h : x ∈ found
  · rw [if_pos h, decide_eq_true h]
    show found ++ [] = found
    rw [List.append_nil]
  · rw [if_neg h, decide_eq_false h]
    rfl
theorem notclimb_eq (ns : List Int) : (((((List.range ((ns.length : Int) - 1).toNat).map fun i : Nat => 1 + (i : Int)).filter fun x : Int => decide (ns.getD x.toNat 0 ≤ ns.getD (x - 1).toNat 0)).map fun x : Int => x)).isEmpty = climbs ns := by
  rw [List.map_id', Bool.eq_iff_iff, List.isEmpty_iff, List.filter_eq_nil_iff]
  unfold climbs
  rw [List.all_eq_true]
  constructor
  · intro h i hi
    have hi := List.mem_range.mp hi
    have := h (1 + (i : Int)) (List.mem_map.mpr ⟨i, List.mem_range.mpr (by omega), rfl⟩)
    rw [show (1 + (i : Int) - 1).toNat = i by omega, show (1 + (i : Int)).toNat = i + 1 by omega] at this
    rw [decide_eq_true_eq]
    rw [decide_eq_true_eq] at this
    omega
  · intro h x hx
    obtain ⟨i, hi, rfl⟩ := List.mem_map.mp hx
    have hi := List.mem_range.mp hi
    have := h i (List.mem_range.mpr (by omega))
    rw [show (1 + (i : Int) - 1).toNat = i by omega, show (1 + (i : Int)).toNat = i + 1 by omega, decide_eq_true_eq]
    rw [decide_eq_true_eq] at this
    omega
theorem known_not {w : Int} {ps : List Int} {ds : List Dat} {x : Dat} (hx : x ∈ ds) (h : knownOneB w ps x = false) : knownB w ps (.lst ds) = false := by
  show (ds.all (knownOneB w ps) && _) = false
  have : ds.all (knownOneB w ps) = false := by
    cases e : ds.all (knownOneB w ps) with
    | false => rfl
    | true => rw [List.all_eq_true.mp e x hx] at h; cases h
  rw [this, Bool.false_and]
section
variable {K : PySem.W.Frag} {G : Option Addr} {c1 c2 : Nat} {ta tb : TE} {Γ : AP.Ctx}
theorem ty_fstI {d a b : Dat} (h : Ty G c1 ta Γ (· = d)) (h2 : Ty G c2 tb Γ (· = (0 : Int))) (e : d = .tup [a, b]) (ha : a.whole = true) : Ty G (c1 + c2) (tOp (rIxT K) ta tb) Γ (· = d.fst.toI) := by
  subst e
  exact (ty_ixT (ds := [a, b]) h h2 rfl).intOf ha
end
theorem pow_29 : PowOk 10 29 := ⟨by decide, by decide +kernel⟩
theorem sm_nil : ∀ d ∈ ([] : List Dat), d.small := by simp
theorem sm_cons {d : Dat} {ds : List Dat} (h : d.small) (k : ∀ d ∈ ds, d.small) : ∀ x ∈ d :: ds, x.small := fun x hx => by
  rcases List.mem_cons.mp hx with rfl | hx
  · exact h
  · exact k x hx
theorem sm_app {ds es : List Dat} (h : ∀ d ∈ ds, d.small) (k : ∀ d ∈ es, d.small) : ∀ x ∈ ds ++ es, x.small := fun x hx => by
  rcases List.mem_append.mp hx with hx | hx
  · exact h x hx
  · exact k x hx
section
variable {G : Option Addr} {c0 c1 c2 c3 : Nat} {t0 t1 t2 t3 : TE} {Γ : AP.Ctx} {g : Addr}
theorem y_yes {E : XK} {a b : Bool} (h0 : Ty G c0 t0 Γ (· = a)) (h1 : Ty G c1 t1 Γ (· = b)) : Ty G (c0 + (c1 + 0) + 0) (tCall cYes.sp [] E (tCons t0 (tCons t1 tNil))) Γ (· = decide (a = b)) := ty_call (C := cYes) (a, b) (ta_cons h0 (ta_cons h1 ta_nil)) trivial
theorem y_lplaces {E : XK} {wd most : Int} (h0 : Ty (some g) c0 t0 Γ (· = GenR.mk g)) (h1 : Ty (some g) c1 t1 Γ (· = wd)) (h2 : Ty (some g) c2 t2 Γ (· = most)) (p : wOk wd ∧ 1 ≤ most ∧ most ≤ 100) :
    Ty (some g) (c0 + (c1 + (c2 + 0)) + 40000) (tCall cLPlaces.sp [] E (tCons t0 (tCons t1 (tCons t2 tNil)))) Γ (Asc wd) := ty_call (C := cLPlaces) (g, wd, most) (ta_cons h0 (ta_cons h1 (ta_cons h2 ta_nil))) ⟨rfl, p⟩
theorem y_lwords {E : XK} {wd many : Int} (h0 : Ty (some g) c0 t0 Γ (· = GenR.mk g)) (h1 : Ty (some g) c1 t1 Γ (· = wd)) (h2 : Ty (some g) c2 t2 Γ (· = many)) (p : wOk wd ∧ 0 ≤ many ∧ many ≤ 100) :
    Ty (some g) (c0 + (c1 + (c2 + 0)) + 40000) (tCall cLWords.sp [] E (tCons t0 (tCons t1 (tCons t2 tNil)))) Γ (fun ws : List Int => ws.length = many.toNat ∧ ∀ x ∈ ws, 0 ≤ x ∧ x < 2 ^ wd.toNat) := ty_call (C := cLWords) (g, wd, many) (ta_cons h0 (ta_cons h1 (ta_cons h2 ta_nil))) ⟨rfl, p⟩
theorem y_lknown {E : XK} {wd : Int} {ps : List Int} (h0 : Ty (some g) c0 t0 Γ (· = GenR.mk g)) (h1 : Ty (some g) c1 t1 Γ (· = wd)) (h2 : Ty (some g) c2 t2 Γ (· = ps)) (p : wOk wd ∧ ps.length ≤ 100 ∧ ∀ x ∈ ps, 0 ≤ x ∧ x < 2 ^ wd.toNat) :
    Ty (some g) (c0 + (c1 + (c2 + 0)) + 80000) (tCall cLKnown.sp [] E (tCons t0 (tCons t1 (tCons t2 tNil)))) Γ (fun l : List (Int × Int) => l.length ≤ 100 ∧ ∀ x ∈ l, (0 ≤ x.1 ∧ x.1 < 2 ^ wd.toNat) ∧ (0 ≤ x.2 ∧ x.2 < 2 ^ wd.toNat)) :=
  ty_call (C := cLKnown) (g, wd, ps) (ta_cons h0 (ta_cons h1 (ta_cons h2 ta_nil))) ⟨rfl, p⟩
theorem y_odd {E : XK} {wd : Int} (h0 : Ty G c0 t0 Γ (· = wd)) (p : wOk wd) : Ty G (c0 + 0 + 0) (tCall cOdd.sp [] E (tCons t0 tNil)) Γ (· = oddL wd) := ty_call (C := cOdd) wd (ta_cons h0 ta_nil) p
theorem y_bent {E : XK} {wd : Int} {row : List Int} (h0 : Ty (some g) c0 t0 Γ (· = GenR.mk g)) (h1 : Ty (some g) c1 t1 Γ (· = wd)) (h2 : Ty (some g) c2 t2 Γ (· = row)) (p : wOk wd ∧ row.length ≤ 100) :
    Ty (some g) (c0 + (c1 + (c2 + 0)) + 300) (tCall cBent.sp [] E (tCons t0 (tCons t1 (tCons t2 tNil)))) Γ Small := ty_call (C := cBent) (g, wd, row) (ta_cons h0 (ta_cons h1 (ta_cons h2 ta_nil))) ⟨rfl, p⟩
theorem y_bentKnown {E : XK} {wd : Int} {ps : List Int} {kn : List (Int × Int)} (h0 : Ty (some g) c0 t0 Γ (· = GenR.mk g)) (h1 : Ty (some g) c1 t1 Γ (· = wd)) (h2 : Ty (some g) c2 t2 Γ (· = ps)) (h3 : Ty (some g) c3 t3 Γ (· = kn)) (p : wOk wd ∧ (0 < ps.length ∧ ps.length ≤ 100) ∧ kn.length ≤ 100) :
    Ty (some g) (c0 + (c1 + (c2 + (c3 + 0))) + 600) (tCall cBentKnown.sp [] E (tCons t0 (tCons t1 (tCons t2 (tCons t3 tNil))))) Γ Small := ty_call (C := cBentKnown) (g, wd, ps, kn) (ta_cons h0 (ta_cons h1 (ta_cons h2 (ta_cons h3 ta_nil)))) ⟨rfl, p⟩
end

instance : Py (Option Int) := ⟨fun o v _ => match o with | none => v = .non | some n => v = .int n, fun o _ _ _ _ h => by cases o <;> exact h⟩
def cTwosOpt : Con Int (Option Int) := ⟨fun n => [Py.is n], nop, fun _ => 0, fun n o => o = if n = 0 then none else some (twos n)⟩
def cTwosNz : Con Int Int := ⟨fun n => [Py.is n], fun n _ => n ≠ 0 ∧ n.natAbs < 2 ^ 200, fun _ => 0, fun n t => t = twos n⟩
def cLWord : Con (Int × List Int × Int) Int := ⟨fun i => [Py.is i.1, Py.is i.2.1, Py.is i.2.2], fun i _ => wOk i.1 ∧ (i.2.1.length ≤ 20 ∧ ∀ c ∈ i.2.1, c.natAbs < 2 ^ 200) ∧ i.2.2.natAbs < 2 ^ 200, fun _ => 0, fun i n => n = polyS i.2.1 i.2.2 % 2 ^ i.1.toNat⟩
def Co (cs : List Int) : Prop := cs.length ≤ 8 ∧ ∀ c ∈ cs, c.natAbs < 2 ^ 100
def cCoef : Con Addr (List Int) := ⟨fun g => [Py.is (GenR.mk g)], fun g G => G = some g, fun _ => 4000, fun _ cs => Co cs⟩
section
variable {G : Option Addr} {c0 c1 c2 c3 : Nat} {t0 t1 t2 t3 : TE} {Γ : AP.Ctx} {g : Addr}
theorem y_twosOpt {n : Int} {E : XK} (h0 : Ty G c0 t0 Γ (· = n)) : Ty G (c0 + 0 + 0) (tCall cTwosOpt.sp [] E (tCons t0 tNil)) Γ (· = if n = 0 then none else some (twos n)) := ty_call (C := cTwosOpt) n (ta_cons h0 ta_nil) trivial
theorem k_twosOpt {n : Int} {E : XK} (h0 : Ty G c0 t0 Γ (· = n)) : Ty G (0 + (c0 + 0) + 0) (tCallK cTwosOpt.sp (fun _ ks => ks.reverse) E tNil (tCons t0 tNil)) Γ (· = if n = 0 then none else some (twos n)) := ty_callR (C := cTwosOpt) n (ta_cons h0 ta_nil) trivial
theorem optSome {te : TE} {c : Nat} {n : Int} (h : AP.Ty G c te Γ (· = some n)) : AP.Ty G c te Γ (· = n) := h.cast fun _ _ e => e
theorem y_twosNz {n : Int} {E : XK} (h0 : Ty G c0 t0 Γ (· = n)) (p : n ≠ 0 ∧ n.natAbs < 2 ^ 200) : Ty G (c0 + 0 + 0) (tCall cTwosNz.sp [] E (tCons t0 tNil)) Γ (· = twos n) := ty_call (C := cTwosNz) n (ta_cons h0 ta_nil) p
theorem y_lword {w x : Int} {cs : List Int} {E : XK} (h0 : Ty G c0 t0 Γ (· = w)) (h1 : Ty G c1 t1 Γ (· = cs)) (h2 : Ty G c2 t2 Γ (· = x)) (p : wOk w ∧ (cs.length ≤ 20 ∧ ∀ c ∈ cs, c.natAbs < 2 ^ 200) ∧ x.natAbs < 2 ^ 200) : Ty G (c0 + (c1 + (c2 + 0)) + 0) (tCall cLWord.sp [] E (tCons t0 (tCons t1 (tCons t2 tNil)))) Γ (· = polyS cs x % 2 ^ w.toNat) := ty_call (C := cLWord) (w, cs, x) (ta_cons h0 (ta_cons h1 (ta_cons h2 ta_nil))) p
theorem y_coef {E : XK} (h0 : Ty (some g) c0 t0 Γ (· = GenR.mk g)) : Ty (some g) (c0 + 0 + 4000) (tCall cCoef.sp [] E (tCons t0 tNil)) Γ Co := ty_call (C := cCoef) g (ta_cons h0 ta_nil) rfl
end

section
variable {P : Program} {w : World} {K : PySem.W.Frag} {mg : Str → Option Value} {base : Heap}
abbrev stwos_in : Stmt := topS 25
theorem sctwos_in : FnScope ["number"] ["number"] (defScope stwos_in) := ⟨rfl, rfl, rfl, by decide +kernel, rfl, by decide +kernel, by decide +kernel⟩
theorem ok_twos_in {f : Addr} {fd : FuncData} (F : Df K "twos_in" "twos_in" stwos_in [] f fd) (T : TN mg)  (Fneed_whole : Fo P w K mg base "need_whole" 2 ["number"] cNeedWhole.sp) (Ftwos_of : Fo P w K mg base "twos_of" 1 ["number"] cTwosIn.sp) :
    FnOk P w K mg base CX0 3 f fd ["number"] cTwosOpt.sp := by
  refine con_go F sctwos_in cTwosOpt (fun _ => rfl) fun cdv A outer s H E i G z0 B0 hr hp at0 hz => ⟨_, (pss_cons (ps_expr (pe_fo Fneed_whole (hr.mono (by decide)) (by rfl) (pa_cons (pv 0) pa_nil)))
     (pss_cons (ps_if (pt_cmpR op_eq (pv 0) pe_int (nomark _)) (pss_one (ps_ret pe_non)) pss_nil)
     (pss_one (ps_ret (pe_fo Ftwos_of (hr.mono (by decide)) (by rfl) (pa_cons (pv 0) pa_nil)))))), fun σ Q en q => ?_⟩
  have n0 := Nx.refl at0
  have hz1 : z0 + 0 ≤ 2 ^ 50 := hz
  refine q_dropS at0 n0 en (y_needWhole (ty_var (x := i) rfl)) hz fun _ z' B' H' _ _ n en => ?_
  refine AP.q_when at0 n en (tt_test (ty_eqI (ty_var (x := i) rfl) ty_i)) hz1 (fun hb z' B' H' _ n en => ?_) (fun hb z' B' H' _ n en => ?_)
  · have h0 : i = 0 := of_decide_eq_true hb
    exact q_ret at0 n en ((ty_n.cast (y := (none : Option Int)) fun _ _ e => e).to (by rw [if_pos h0])) hz1 q
  · have h0 : i ≠ 0 := fun e => by rw [e] at hb; cases hb
    exact q_ret at0 n en (((y_twosIn (ty_var (x := i) rfl) h0).cast (y := some (twos i)) fun _ _ e => e).to (by rw [if_neg h0])) hz1 q
abbrev s_law_power : Stmt := topS 36
theorem sc_law_power : FnScope ["_law_number", "_law_times", "_law_found", "_law_turn"] ["_law_number", "_law_times"] (defScope s_law_power) := ⟨rfl, rfl, rfl, by decide +kernel, rfl, by decide +kernel, by decide +kernel⟩
theorem ok_law_power {f : Addr} {fd : FuncData} (F : Df K "_law_power" "_law_power" s_law_power [] f fd) (T : TN mg)   :
    FnOk P w K mg base CX0 1 f fd ["_law_number", "_law_times"] cPower.sp := by
  refine con_go F sc_law_power cPower (fun _ => rfl) fun cdv A outer s H E i G z0 B0 hr hp at0 hz => ⟨_, (pss_cons (ps_set (i := 2) sc_law_power.nd rfl (.inl rfl) pe_int)
     (pss_cons (ps_for PassesOwn.never rfl (pi_range1 (by rfl) T.b_range (pa_cons (pv 1) pa_nil)) (pg_name (i := 3) sc_law_power.nd rfl (.inl rfl))
      (pss_one (ps_set (i := 2) sc_law_power.nd rfl (.inl rfl) (pe_op op_mulW (pv 2) (pv 0)))))
     (pss_one (ps_ret (pv 2))))), fun σ Q en q => ?_⟩
  have n0 := Nx.refl at0
  obtain ⟨nm, t⟩ := i
  obtain ⟨h1, h2, h3⟩ := hp
  have hz1 : z0 + 0 ≤ 2 ^ 50 := hz
  refine q_asgS at0 n0 en (i := 2) ty_i hz fun x z' B' H' σ' ex _ n en => ?_
  subst ex
  refine q_forS at0 n en (cb := 0) (ti_rng1 (ta_cons (ty_var rfl) ta_nil) ⟨by omega, by omega⟩) hz
    (fun i Γ _ _ => ∃ o, Γ = [some (Py.is nm), some (Py.is t), some (Py.is (nm ^ i)), o]) (fun _ _ _ _ _ => ⟨none, by rw [Int.pow_zero] <;> rfl⟩) (fun _ _ _ _ _ h _ => h) (fun m em Bs i Γ' z' B' H' σ' hi inv eb n en => ?_) fun m em Γ' z' B' H' σ' inv n en => ?_
  · obtain ⟨o, rfl⟩ := inv
    exact q_asg at0 n en (i := 2) (ty_I (C := CMulW) (ty_var rfl) (ty_var rfl) (mul_pow h3 (by omega))) (by simpa using hz1) fun x z' B' H' σ' ex s' n en =>
      ⟨_, z', B', ⟨_, by subst ex; rw [Int.pow_succ] <;> rfl⟩, eb.trans s'.up, n.le (by simp), en⟩
  · obtain ⟨o, rfl⟩ := inv
    subst em
    exact q_ret at0 n en (ty_var rfl) (by simpa using hz1) fun x v z' B' H' e n h => q x v z' B' H' e (n.le (by simp)) h
abbrev s_law_places : Stmt := topS 37
theorem sc_law_places : FnScope ["_law_generator_here", "_law_width", "_law_most", "_law_top", "_law_found", "_law_turn", "_law_place"] ["_law_generator_here", "_law_width", "_law_most"] (defScope s_law_places) := ⟨rfl, rfl, rfl, by decide +kernel, rfl, by decide +kernel, by decide +kernel⟩
theorem ok_law_places {f : Addr} {fd : FuncData} (F : Df K "_law_places" "_law_places" s_law_places [] f fd) (T : TN mg)  (F_law_random : Fo P w K mg base "_law_random" 2 ["_law_generator_here", "_law_bound"] cRandom.sp) (F_law_power : Fo P w K mg base "_law_power" 1 ["_law_number", "_law_times"] cPower.sp) :
    FnOk P w K mg base CX0 3 f fd ["_law_generator_here", "_law_width", "_law_most"] cLPlaces.sp := by
  refine con_go F sc_law_places cLPlaces (fun _ => rfl) fun cdv A outer s H E i G z0 B0 hr hp at0 hz => ⟨_, (pss_cons (ps_par (i := 3) (j := 4) rfl sc_law_places.nd rfl rfl (by decide) rfl rfl (pa_cons (pe_fo F_law_power (hr.mono (by decide)) (by rfl) (pa_cons pe_int (pa_cons (pv 1) pa_nil))) (pa_cons (pe_lst pa_nil) pa_nil)) (by rfl))
     (pss_cons (ps_for PassesOwn.never rfl (pi_range1 (by rfl) T.b_range (pa_cons (pe_op op_add pe_int (pe_fo F_law_random (hr.mono (by decide)) (by rfl) (pa_cons (pv 0) (pa_cons (pv 2) pa_nil)))) pa_nil)) (pg_name (i := 5) sc_law_places.nd rfl (.inl rfl))
      (pss_cons (ps_set (i := 6) sc_law_places.nd rfl (.inl rfl) (pe_fo F_law_random (hr.mono (by decide)) (by rfl) (pa_cons (pv 0) (pa_cons (pv 3) pa_nil))))
       (pss_one (ps_set (i := 4) sc_law_places.nd rfl (.inl rfl) (pe_op op_cat (pv 4) (pe_op op_rep (pe_lst (pa_cons (pv 6) pa_nil)) (pe_callTy (r := rInt1) call_int1 (by rfl) T.b_int (by decide +kernel) (pa_cons (pe_cmpR (r := rIn K true) op_notIn_seq (pv 6) (pv 4) (by rfl)) pa_nil))))))))
     (pss_one (ps_ret (pe_callB (r := rSortedI K) cr_sortedI (by rfl) T.b_sorted (by decide +kernel) (pa_cons (pv 4) pa_nil)))))), fun σ Q en q => ?_⟩
  have n0 := Nx.refl at0
  obtain ⟨g, wd, most⟩ := i
  obtain ⟨eG, hw, hm1, hm2⟩ := hp
  subst eG
  have hw : 1 ≤ wd ∧ wd ≤ 64 := hw
  have hm1 : 1 ≤ most := hm1
  have hm2 : most ≤ 100 := hm2
  have hz1 : z0 + 40000 ≤ 2 ^ 50 := hz
  obtain ⟨tp, tp2⟩ := two_pow wd (by omega) (by omega)
  refine q_par at0 n0 en (y_power ty_i (ty_var (x := wd) rfl) ⟨by omega, by omega, by decide⟩) (ty_nil (α := Int)) (by omega) fun x y z' B' H' σ' ex ey _ n en => ?_
  subst ex ey
  refine q_forS at0 n en (cb := 300) (ti_rng1N (ta_consN (ty_I0N ty_i (y_random (ty_var rfl) (ty_var rfl) (small_b (by omega) (by omega)))) ta_nil) (fun nn ⟨a, b, e1, e2, e3⟩ => by have e3 : nn = a + b := e3; omega)) (by omega)
    (fun i Γ _ _ => ∃ (found : List Int) (o5 o6 : Option VP), Γ = [some (Py.is (GenR.mk g)), some (Py.is wd), some (Py.is most), some (Py.is ((2 : Int) ^ wd.toNat)), some (Py.is found), o5, o6] ∧
      found.Nodup ∧ (∀ p ∈ found, 0 ≤ p ∧ p < 2 ^ wd.toNat) ∧ found.length ≤ i ∧ (0 < i → 0 < found.length))
    (fun _ _ _ _ _ => ⟨[], none, none, rfl, List.nodup_nil, by simp, Nat.le_refl _, fun h => absurd h (by decide)⟩) (fun _ _ _ _ _ h _ => h) (fun m em Bs i Γ' z' B' H' σ' hi inv eb n en => ?_) fun m em Γ' z' B' H' σ' inv n en => ?_
  · obtain ⟨nn, ⟨a, b, e1, e2, e3⟩, em⟩ := em
    have e3 : nn = a + b := e3
    obtain ⟨found, o5, o6, rfl, nd, bd, len, ne⟩ := inv
    refine q_asgS at0 n en (i := 6) (y_random (ty_var rfl) (ty_var (x := (2 : Int) ^ wd.toNat) rfl) (small_b tp tp2)) (by omega) fun x z' B' H' σ' hx s' n en => ?_
    refine q_asg at0 n en (i := 4) (ty_cat (ty_var (x := found) rfl) (ty_rep (ty_lit (tl_cons (ty_var (x := x) rfl) tl_nil) (by simp)) (ty_intB (ty_notIn (ty_var (x := x) rfl) (ty_var (x := found) rfl))) (by split <;> decide) (by split <;> simp)) (by rw [List.length_flatten]; simp; split <;> simp <;> omega)) (by omega) fun y z' B' H' σ' ey s2 n en => ?_
    have ey : y = if x ∈ found then found else found ++ [x] := ey.trans (add_new found x)
    refine ⟨_, z', B', ⟨y, _, _, rfl, ?_⟩, (eb.trans s'.up).trans s2.up, n.le (by omega), en⟩
    rw [ey]
    by_cases h : x ∈ found
    · rw [if_pos h]
      exact ⟨nd, bd, by omega, fun _ => List.length_pos_of_mem h⟩
    · rw [if_neg h]
      refine ⟨List.nodup_append.mpr ⟨nd, by simp, fun a ha b hb => ?_⟩, fun p hp => ?_, by rw [List.length_append]; simp; omega, fun _ => by rw [List.length_append]; simp⟩
      · rw [List.mem_singleton.mp hb]
        exact fun e => h (e ▸ ha)
      · rcases List.mem_append.mp hp with hp | hp
        · exact bd p hp
        · rw [List.mem_singleton.mp hp]
          exact hx
  · obtain ⟨nn, ⟨a, b, e1, e2, e3⟩, em⟩ := em
    have e3 : nn = a + b := e3
    obtain ⟨found, o5, o6, rfl, nd, bd, len, ne⟩ := inv
    refine q_ret at0 n en (ty_sortedN (ty_var (x := found) rfl)) (by omega) fun l v z' B' H' hl n h => q l v z' B' H' ?_ (n.le (by show _ ≤ 40000; omega)) h
    obtain ⟨ns, rfl, pm, so⟩ := hl
    have lenL := pm.length_eq
    have ndL : l.Nodup := pm.symm.nodup nd
    refine ⟨?_, ?_, fun p hp => bd p (pm.mem_iff.mp hp), ?_⟩
    · have := ne (by omega)
      omega
    · omega
    · have : l.Pairwise (fun a b : Int => a ≤ b ∧ a ≠ b) := List.Pairwise.and so ndL
      exact this.imp fun h => by omega
abbrev s_law_twos : Stmt := topS 38
theorem sc_law_twos : FnScope ["_law_number", "_law_found"] ["_law_number"] (defScope s_law_twos) := ⟨rfl, rfl, rfl, by decide +kernel, rfl, by decide +kernel, by decide +kernel⟩
theorem ok_law_twos {f : Addr} {fd : FuncData} (F : Df K "_law_twos" "_law_twos" s_law_twos [] f fd) (T : TN mg)   :
    FnOk P w K mg base CX0 1 f fd ["_law_number"] cTwosNz.sp := by
  refine con_go F sc_law_twos cTwosNz (fun _ => rfl) fun cdv A outer s H E i G z0 B0 hr hp at0 hz => ⟨_, (pss_cons (ps_set (i := 1) sc_law_twos.nd rfl (.inl rfl) pe_int)
     (pss_cons (ps_while PassesOwn.never (pt_cmpR op_eq (pe_op op_mod (pe_callTy (r := rInt1) call_int1 (by rfl) T.b_int (by decide +kernel) (pa_cons (pv 0) pa_nil)) pe_int) pe_int (nomark _))
      (pss_one (ps_par (i := 0) (j := 1) rfl sc_law_twos.nd rfl rfl (by decide) rfl rfl (pa_cons (pe_op op_fdivW (pv 0) pe_int) (pa_cons (pe_op op_add (pv 1) pe_int) pa_nil)) (by rfl))))
     (pss_one (ps_ret (pv 1))))), fun σ Q en q => ?_⟩
  have n0 := Nx.refl at0
  obtain ⟨hi0, hi⟩ := hp
  have hi0 : i ≠ 0 := hi0
  have hi : i.natAbs < 2 ^ 200 := hi
  have hz1 : z0 + 0 ≤ 2 ^ 50 := hz
  refine q_asgS at0 n0 en (i := 1) ty_i hz fun x z' B' H' σ' ex _ n en => ?_
  subst ex
  refine q_whileS at0 n en hz1 (fun m Γ => ∃ n f : Int, Γ = [some (Py.is n), some (Py.is f)] ∧ m = n.natAbs ∧ f + twos n = twos i ∧ n ≠ 0) i.natAbs ⟨i, 0, rfl, rfl, by omega, hi0⟩ fun m Γ' inv => ?_
  obtain ⟨n, f, rfl, rfl, hf, hn⟩ := inv
  refine ⟨_, tt_test (ty_eqI (ty_I (C := fun _ j => 0 < j) (f := fun a b => a % b) (ty_int (ty_var (x := n) rfl)) ty_i (by decide)) ty_i), fun hb z' B' H' σ' nx en => ?_, fun hb z' B' H' σ' nx en => ?_⟩
  · have hb : n % 2 = 0 := of_decide_eq_true hb
    refine q_parE at0 nx en (ty_I (C := CDivW) (f := fun a b => a / b) (ty_var (x := n) rfl) ty_i ⟨by decide, by decide⟩) (ty_I0 (f := fun a b => a + b) (ty_var (x := f) rfl) ty_i) (by simpa using hz1) fun x y z' B' H' σ' ex ey _ nx en => ⟨_, _, z', B', ?_, ⟨x, y, rfl, rfl, ?_, ?_⟩, nx.le (by simp), en⟩
    · rw [ex]; omega
    · have := twos_even hn hb
      have ex : x = n / 2 := ex
      have ey : y = f + 1 := ey
      rw [ex, ey]
      omega
    · have ex : x = n / 2 := ex
      omega
  · have hb : ¬ n % 2 = 0 := of_decide_eq_false hb
    have : twos n = 0 := twos_odd (by omega)
    exact q_ret at0 nx en ((ty_var (x := f) rfl).to (by omega)) (by simpa using hz1) fun x v z' B' H' e n h => q x v z' B' H' e (n.le (by simp)) h
abbrev s_law_word : Stmt := topS 39
theorem sc_law_word : FnScope ["_law_width", "_law_coefficients_here", "_law_number", "_law_found", "_law_power_here", "_law_item"] ["_law_width", "_law_coefficients_here", "_law_number"] (defScope s_law_word) := ⟨rfl, rfl, rfl, by decide +kernel, rfl, by decide +kernel, by decide +kernel⟩
theorem ok_law_word {f : Addr} {fd : FuncData} (F : Df K "_law_word" "_law_word" s_law_word [] f fd) (T : TN mg)  (F_law_power : Fo P w K mg base "_law_power" 1 ["_law_number", "_law_times"] cPower.sp) :
    FnOk P w K mg base CX0 2 f fd ["_law_width", "_law_coefficients_here", "_law_number"] cLWord.sp := by
  refine con_go F sc_law_word cLWord (fun _ => rfl) fun cdv A outer s H E i G z0 B0 hr hp at0 hz => ⟨_, (pss_cons (ps_set (i := 3) sc_law_word.nd rfl (.inl rfl) pe_int)
     (pss_cons (ps_for PassesOwn.never rfl (pi_enum (by rfl) T.b_enumerate (pa_cons (pv 1) pa_nil)) (pg_tup rfl (pgs_cons (pg_name (i := 4) sc_law_word.nd rfl (.inl rfl)) (pgs_cons (pg_name (i := 5) sc_law_word.nd rfl (.inl rfl)) pgs_nil)))
      (pss_one (ps_set (i := 3) sc_law_word.nd rfl (.inl rfl) (pe_op op_add (pv 3) (pe_op op_mulW (pv 5) (pe_fo F_law_power (hr.mono (by decide)) (by rfl) (pa_cons (pv 2) (pa_cons (pv 4) pa_nil))))))))
     (pss_one (ps_ret (pe_op op_mod (pe_callTy (r := rInt1) call_int1 (by rfl) T.b_int (by decide +kernel) (pa_cons (pv 3) pa_nil)) (pe_fo F_law_power (hr.mono (by decide)) (by rfl) (pa_cons pe_int (pa_cons (pv 0) pa_nil)))))))), fun σ Q en q => ?_⟩
  have n0 := Nx.refl at0
  obtain ⟨wd, cs, x⟩ := i
  obtain ⟨hw, ⟨lc, bc⟩, bx⟩ := hp
  have hw : 1 ≤ wd ∧ wd ≤ 64 := hw
  have lc : cs.length ≤ 20 := lc
  have bx : x.natAbs < 2 ^ 200 := bx
  have hz1 : z0 + 0 ≤ 2 ^ 50 := hz
  obtain ⟨tp, tp2⟩ := two_pow wd (by omega) (by omega)
  refine q_asgS at0 n0 en (i := 3) ty_i hz fun found z' B' H' σ' em _ n en => ?_
  subst em
  refine q_forS at0 n en (cb := 0) (ti_enum (ta_cons (ty_var (x := cs) rfl) ta_nil)) hz1 (fun k Γ _ _ => ∃ o4 o5 : Option VP, Γ = [some (Py.is wd), some (Py.is cs), some (Py.is x), some (Py.is (polyS (cs.take k) x)), o4, o5])
    (fun _ _ _ _ _ => ⟨none, none, rfl⟩) (fun _ _ _ _ _ h _ => h) (fun m em Bs k Γ' z' B' H' σ' hk inv eb n en => ?_) fun m em Γ' z' B' H' σ' inv n en => ?_
  · obtain ⟨o4, o5, rfl⟩ := inv
    subst em
    have e := List.getElem?_eq_getElem hk
    have en : Slo B' σ' [some (Py.is wd), some (Py.is cs), some (Py.is x), some (Py.is (polyS (cs.take k) x)), some (Py.is (k : Int)), some (itm cs k)] := en
    rw [itm_eq e] at en
    refine q_asg at0 n en (i := 3) (ty_I0 (f := fun a b => a + b) (ty_var (x := polyS (cs.take k) x) rfl) (ty_I (C := CMulW) (f := fun a b => a * b) (ty_var (x := cs[k]) rfl) (y_power (ty_var (x := x) rfl) (ty_var (x := (k : Int)) rfl) ⟨by omega, by omega, bx⟩) (wide_mul (bc _ (List.getElem_mem hk)) (pow_lt bx _) (by decide) (by omega) (by omega)))) (by simpa using hz1) fun y z' B' H' σ' ey s' n en => ⟨_, z', B', ⟨some (Py.is (k : Int)), some (Py.is cs[k]), ?_⟩, eb.trans s'.up, n.le (by simp), en⟩
    have ey : y = polyS (cs.take (k + 1)) x := by
      rw [ey, List.take_succ_eq_append_getElem hk, polyS_snoc, List.length_take, Nat.min_eq_left (by omega), Int.toNat_natCast]
    subst ey
    rfl
  · obtain ⟨o4, o5, rfl⟩ := inv
    subst em
    exact q_ret at0 n en ((ty_I (C := fun _ j => 0 < j) (f := fun a b => a % b) (ty_int (ty_var (x := polyS (cs.take cs.length) x) rfl)) (y_power ty_i (ty_var (x := wd) rfl) ⟨by omega, by omega, by decide⟩) tp).to (by rw [List.take_length])) (by simpa using hz1) fun x v z' B' H' e n h => q x v z' B' H' e (n.le (by simp)) h
abbrev s_law_coefficients : Stmt := topS 40
theorem sc_law_coefficients : FnScope ["_law_generator_here", "_law_most", "_law_turn"] ["_law_generator_here"] (defScope s_law_coefficients) := ⟨rfl, rfl, rfl, by decide +kernel, rfl, by decide +kernel, by decide +kernel⟩
theorem ok_law_coefficients {f : Addr} {fd : FuncData} (F : Df K "_law_coefficients" "_law_coefficients" s_law_coefficients [] f fd) (T : TN mg)  (F_law_random : Fo P w K mg base "_law_random" 2 ["_law_generator_here", "_law_bound"] cRandom.sp) :
    FnOk P w K mg base CX0 3 f fd ["_law_generator_here"] cCoef.sp := by
  refine con_go F sc_law_coefficients cCoef (fun _ => rfl) fun cdv A outer s H E i G z0 B0 hr hp at0 hz => ⟨_, (pss_cons (ps_set (i := 1) sc_law_coefficients.nd rfl (.inr rfl) (pe_ix (r := rIxL K) ix_list (pe_lst (pa_cons pe_int (pa_cons (pe_op op_powW pe_int pe_int) pa_nil))) (pe_fo F_law_random (hr.mono (by decide)) (by rfl) (pa_cons (pv 0) (pa_cons pe_int pa_nil))) (fun _ _ => rfl)))
     (pss_one (ps_ret (pe_lc (own := [("_law_turn", 2)]) rfl sc_law_coefficients.nd (pi_range1 (by rfl) T.b_range (pa_cons (pe_fo F_law_random (hr.mono (by decide)) (by rfl) (pa_cons (pv 0) (pa_cons pe_int pa_nil))) pa_nil)) (blkOk_by (own := [("_law_turn", 2)]) (N := ["_law_generator_here", "_law_most", "_law_turn"]) (sc := defScope s_law_coefficients) (by decide +kernel)) (fun _ _ _ _ _ => (pg_name (i := 2) sc_law_coefficients.nd rfl (Or.inl rfl))) (fun _ _ _ _ _ => pts_nil) (fun _ _ _ _ _ => (pe_op op_sub (pe_fo F_law_random (hr.mono (by decide)) (by rfl) (pa_cons (pv 0) (pa_cons (pe_op op_mulW pe_int (pv 1)) pa_nil))) (pv 1))))))), fun σ Q en q => ?_⟩
  have n0 := Nx.refl at0
  subst hp
  have hz1 : z0 + 4000 ≤ 2 ^ 50 := hz
  refine q_asgS at0 n0 en (i := 1) (A := fun m => m = 5 ∨ m = 10 ^ (29 : Int).toNat) (ty_ixN (ty_lit (tl_cons ty_i (tl_cons (ty_I (C := PowOk) (f := fun a b => a ^ b.toNat) ty_i ty_i pow_29) tl_nil)) (by simp)) (y_random (ty_var rfl) ty_i (small_b (by decide) (by decide))) fun xs j ex hj => ?_) (by omega) fun most z' B' H' σ' hm _ n en => ?_
  · subst ex
    have : j = 0 ∨ j = 1 := by have : 0 ≤ j ∧ j < 2 := hj; omega
    rcases this with rfl | rfl
    · exact ⟨_, rfl, .inl rfl⟩
    · exact ⟨_, rfl, .inr rfl⟩
  have e29 : (10 : Int) ^ (29 : Int).toNat = 100000000000000000000000000000 := by decide
  have hm : 0 < most ∧ most ≤ 100000000000000000000000000000 := by rcases hm with e | e <;> omega
  refine q_ret at0 n en (ty_lc (M := 8) (ct := 0) (cb := 300) (T := fun _ b => b = true) (A := fun _ (c : Int) => c.natAbs < 2 ^ 100) (ti_rng1N (ta_consN (y_random (ty_var rfl) ty_i (small_b (by decide) (by decide))) ta_nil) fun nn h => by have : 0 ≤ nn ∧ nn < 9 := h; omega) (fun m ⟨nn, h, e⟩ => by have : 0 ≤ nn ∧ nn < 9 := h; omega) (by decide) (by simp) (fun m e k hk => tt_yes) fun m e k hk _ =>
    (ty_I0N (f := fun a b => a - b) (A := fun a => 0 ≤ a ∧ a < 2 * most) (A' := (· = most)) (y_random (ty_var rfl) (ty_I (C := CMulW) (f := fun a b => a * b) ty_i (ty_var (x := most) rfl) (wide_mul (a := 3) (b := 100) (by decide) (Nat.lt_of_le_of_lt (show most.natAbs ≤ 100000000000000000000000000000 by omega) (by decide)) (by decide) (by decide) (by decide))) (small_b (by omega) (Int.le_trans (b := 200000000000000000000000000000) (by omega) (by decide)))) (ty_var (x := most) rfl)).imp fun y ⟨a, b, ha, hb, ey⟩ => ?_) (by omega) fun ys v z' B' H' hy n h => q ys v z' B' H' ?_ (n.le (by show _ ≤ 4000; omega)) h
  · have hb : b = most := hb
    have ey : y = a - b := ey
    exact Nat.lt_of_le_of_lt (show y.natAbs ≤ 100000000000000000000000000000 by omega) (by decide)
  · obtain ⟨m, ⟨nn, h, e⟩, sel⟩ := hy
    have h : 0 ≤ nn ∧ nn < 9 := h
    exact ⟨by rw [sel_len (fun _ _ e => e) sel]; omega, sel_all (P := fun c : Int => c.natAbs < 2 ^ 100) (fun _ _ e => e) sel⟩
end
end K02

set_option maxHeartbeats 4000000
namespace K02
open PySem PySem.Spec PyProof.Rows L2 AP Evl


theorem rp_ints {ns : List Int} (h : ∀ n ∈ ns, n.natAbs < 2 ^ 100) : Rp 1 (101 * (ns.map Dat.int).length) (.lst (ns.map Dat.int)) := rp_lst (k := 0) (W := 100) fun d hd => by
  obtain ⟨n, hn, rfl⟩ := List.mem_map.mp hd
  exact rp_int (h n hn)
theorem same_ints {ns : List Int} (h : ∀ n ∈ ns, n.natAbs < 2 ^ 100) : PyData.eqv (Dat.lst (ns.map Dat.int)).py (Dat.lst (ns.map Dat.int)).py = true := PySem.SeqAt.eqv_refl _ (rp_ints h).lay
theorem rep0 (n : Nat) : (List.replicate n [(0 : Int)]).flatten = List.replicate n 0 := by
  induction n with
  | zero => rfl
  | succ n ih => rw [List.replicate_succ, List.flatten_cons, ih, List.replicate_succ] <;> rfl
theorem parts_mem {ps ws os : List Int} {x : Int} (h : x ∈ partsL ps ws os) : x ∈ ps := by
  obtain ⟨k, hk, rfl⟩ := List.mem_map.mp h
  have hk := List.mem_range.mp (List.mem_filter.mp hk).1
  rw [List.getD_eq_getElem?_getD, List.getElem?_eq_getElem hk]
  exact List.getElem_mem _
def kept3 (a b c : List Int) : Dat := .lst [.lst (a.map Dat.int), .lst (b.map Dat.int), .lst (c.map Dat.int)]
theorem rp_small {ns : List Int} (h : ∀ n ∈ ns, n.natAbs < 2 ^ 100) (l : ns.length ≤ 100) : Rp 1 20000 (.lst (ns.map Dat.int)) := (rp_ints h).mono (Nat.le_refl _) (by rw [List.length_map]; omega)
theorem rp_kept3 {a b c : List Int} (h1 : Rp 1 20000 (.lst (a.map Dat.int))) (h2 : Rp 1 20000 (.lst (b.map Dat.int))) (h3 : Rp 1 20000 (.lst (c.map Dat.int))) : Rp 2 100000 (kept3 a b c) := (rp_lst (k := 1) (W := 20000) fun d hd => by
  rcases List.mem_cons.mp hd with rfl | hd
  · exact h1
  · rcases List.mem_cons.mp hd with rfl | hd
    · exact h2
    · rw [List.mem_singleton.mp hd]; exact h3).mono (Nat.le_refl _) (by simp)
section
variable {K : PySem.W.Frag} {G : Option Addr} {c c0 c1 c2 c3 : Nat} {te t0 t1 t2 t3 : TE} {Γ : AP.Ctx} {g : Addr} {B B0 H H0 : Hp} {σ : L2.St} {z z0 : Int} {D : Ends} {tz : TS} {A : List Int → Prop}
theorem k_wordsOf {w : Int} {cs ps : List Int} {E : XK} (h0 : Ty G c0 t0 Γ (· = w)) (h1 : Ty G c1 t1 Γ (· = cs)) (h2 : Ty G c2 t2 Γ (· = ps)) (p : wOk w ∧ coOk cs ∧ Places w ps) : Ty G (0 + (c2 + (c1 + (c0 + 0))) + 0) (tCallK cWordsOf.sp (fun _ ks => ks.reverse) E tNil (tCons t2 (tCons t1 (tCons t0 tNil)))) Γ (· = ps.map fun p => polyS cs p % 2 ^ w.toNat) := ty_callR (C := cWordsOf) (w, cs, ps) (ta_cons h2 (ta_cons h1 (ta_cons h0 ta_nil))) p
theorem k_parting {w : Int} {ps ws os : List Int} {E : XK} (h0 : Ty G c0 t0 Γ (· = w)) (h1 : Ty G c1 t1 Γ (· = ps)) (h2 : Ty G c2 t2 Γ (· = ws)) (h3 : Ty G c3 t3 Γ (· = os)) (p : wOk w ∧ Places w ps ∧ wsOk w ps ws ∧ wsOk w ps os) : Ty G (0 + (c3 + (c2 + (c1 + (c0 + 0)))) + 0) (tCallK cParting.sp (fun _ ks => ks.reverse) E tNil (tCons t3 (tCons t2 (tCons t1 (tCons t0 tNil))))) Γ (· = partsL ps ws os) := ty_callR (C := cParting) (w, ps, ws, os) (ta_cons h3 (ta_cons h2 (ta_cons h1 (ta_cons h0 ta_nil)))) p
theorem y_powerN {A : Int → Prop} {E : XK} {n : Int} (h0 : Ty G c0 t0 Γ (· = n)) (h1 : Ty G c1 t1 Γ A) (p : ∀ t, A t → 0 ≤ t ∧ t ≤ 1000 ∧ n.natAbs < 2 ^ 200) : Ty G (c0 + (c1 + 0) + 0) (tCall cPower.sp [] E (tCons t0 (tCons t1 tNil))) Γ (fun r => ∃ t, A t ∧ r = n ^ t.toNat) :=
  ty_callN (C := cPower) (ta_cons h0 (ta_consN h1 ta_nil)) fun vs B al => by
    obtain ⟨v, u, rfl, hv, t, at_, hu⟩ := al.two
    exact ⟨(n, t), .cons (Py.stays n) hv (.cons (Py.stays t) hu .nil), p t at_, Nat.le_refl _, fun y hy => ⟨t, at_, hy⟩⟩
theorem q_asgLS (s0 : At G z0 B0 H0) (n : Nx G c0 z0 B0 H0 z B H) (en : Slo B σ Γ) {i : Nat} (h : TyN G c te Γ A) (hz : z0 + (c0 + c) ≤ 2 ^ 50)
    (k : ∀ xs l z' B' H', A xs → Nx G c z B H z' B' H' → Nx G (c0 + c) z0 B0 H0 z' B' H' → B l = none → H0 l = none → B' l = some (.lst (xs.map V.int)) → Slo B' (σ.set i (some (.ref l))) (Γ.set i (some (Py.is (LAt.mk l xs)))) → tz D (σ.set i (some (.ref l))) H') : tSeq (tAsg te (gName i)) tz D σ H :=
  h z B σ H en n.at_ (by have := n.hi; omega) _ fun x v z' B' H' ax n' hv => by
    obtain ⟨l, rfl, e⟩ := Py.ints hv
    obtain ⟨e1, e2⟩ := diff_at e
    have hn : H l = none := by
      rcases n'.new l _ e2 with q | q
      · rw [e1] at q; cases q
      · exact q
    exact k x l z' B' H' ax n' (n.trans s0 n') e1 (n.gone s0 hn) e2 ((en.up n'.up).set (Py.stays (LAt.mk l x)) ⟨rfl, e2⟩)
end

section
variable {P : Program} {w : World} {K : PySem.W.Frag} {mg : Str → Option Value} {base : Heap}
abbrev s_law_right : Stmt := topS 41
theorem sc_law_right : FnScope ["_law_generator_here", "_law_width", "_law_places_here", "_law_some", "_law_more", "_law_kept", "_law_top", "_law_place", "_law_due", "_law_told", "_law_number", "_law_one", "_law_word_here", "_law_other", "_law_others", "_law_longer", "_law_sums", "_law_parts", "_law_left", "_law_right_here"] ["_law_generator_here"] (defScope s_law_right) := ⟨rfl, rfl, rfl, by decide +kernel, rfl, by decide +kernel, by decide +kernel⟩
theorem ok_law_right {f : Addr} {fd : FuncData} (F : Df K "_law_right" "_law_right" s_law_right [] f fd) (T : TN mg) (FwordsN : Fo P w K mg base "words_at" 7 ["width", "coefficients", "places"] cWordsOf.spN) (F_law_random : Fo P w K mg base "_law_random" 2 ["_law_generator_here", "_law_bound"] cRandom.sp) (F_law_power : Fo P w K mg base "_law_power" 1 ["_law_number", "_law_times"] cPower.sp) (F_law_places : Fo P w K mg base "_law_places" 3 ["_law_generator_here", "_law_width", "_law_most"] cLPlaces.sp) (F_law_twos : Fo P w K mg base "_law_twos" 1 ["_law_number"] cTwosNz.sp) (F_law_word : Fo P w K mg base "_law_word" 2 ["_law_width", "_law_coefficients_here", "_law_number"] cLWord.sp) (F_law_coefficients : Fo P w K mg base "_law_coefficients" 3 ["_law_generator_here"] cCoef.sp) (Fwords_at : Fo P w K mg base "words_at" 7 ["width", "coefficients", "places"] cWordsOf.sp) (Fword_at : Fo P w K mg base "word_at" 5 ["width", "coefficients", "number"] cWorth.sp) (Fparting_places : Fo P w K mg base "parting_places" 7 ["width", "places", "words", "others"] cParting.sp) (Ftwos_in : Fo P w K mg base "twos_in" 3 ["number"] cTwosOpt.sp) :
    FnG P w K mg base CX0 8 f fd ["_law_generator_here"] cRight.sp := by
  refine con_goG F sc_law_right cRight (fun _ => rfl) fun cdv A outer s H E i G z0 B0 ng hr hp at0 hz => ⟨_, (pss_cons (ps_set (i := 1) sc_law_right.nd rfl (.inr rfl) (pe_ix (r := rIxL K) ix_list (pe_lst (pa_cons (pe_op op_add pe_int (pe_fo F_law_random (hr.mono (by decide)) (by rfl) (pa_cons (pv 0) (pa_cons pe_int pa_nil)))) (pa_cons (pe_op op_add pe_int (pe_fo F_law_random (hr.mono (by decide)) (by rfl) (pa_cons (pv 0) (pa_cons pe_int pa_nil)))) pa_nil))) (pe_fo F_law_random (hr.mono (by decide)) (by rfl) (pa_cons (pv 0) (pa_cons pe_int pa_nil))) (fun _ _ => rfl)))
     (pss_cons (ps_asg (pe_tup (pa_cons (pe_fo F_law_places (hr.mono (by decide)) (by rfl) (pa_cons (pv 0) (pa_cons (pv 1) (pa_cons pe_int pa_nil)))) (pa_cons (pe_fo F_law_coefficients (hr.mono (by decide)) (by rfl) (pa_cons (pv 0) pa_nil)) (pa_cons (pe_fo F_law_coefficients (hr.mono (by decide)) (by rfl) (pa_cons (pv 0) pa_nil)) pa_nil)))) (pg_tup rfl (pgs_cons (pg_name (i := 2) sc_law_right.nd rfl (.inl rfl)) (pgs_cons (pg_name (i := 3) sc_law_right.nd rfl (.inr rfl)) (pgs_cons (pg_name (i := 4) sc_law_right.nd rfl (.inl rfl)) pgs_nil)))))
     (pss_cons (ps_asg (pe_tup (pa_cons (pe_callB (r := rRepr K) (call_reprD ng hr.units) (by rfl) T.b_repr (by decide +kernel) (pa_cons (pe_lst (pa_cons (pv 2) (pa_cons (pv 3) (pa_cons (pv 4) pa_nil)))) pa_nil)) (pa_cons (pe_fo F_law_power (hr.mono (by decide)) (by rfl) (pa_cons pe_int (pa_cons (pv 1) pa_nil))) pa_nil))) (pg_tup rfl (pgs_cons (pg_name (i := 5) sc_law_right.nd rfl (.inl rfl)) (pgs_cons (pg_name (i := 6) sc_law_right.nd rfl (.inr rfl)) pgs_nil))))
     (pss_cons (ps_setLc (i := 8) (own := [("_law_place", 7)]) rfl sc_law_right.nd rfl rfl (sw_true rfl rfl rfl (by decide +kernel)) (pi_list (pv 2)) (blkOk_by (own := [("_law_place", 7)]) (N := ["_law_generator_here", "_law_width", "_law_places_here", "_law_some", "_law_more", "_law_kept", "_law_top", "_law_place", "_law_due", "_law_told", "_law_number", "_law_one", "_law_word_here", "_law_other", "_law_others", "_law_longer", "_law_sums", "_law_parts", "_law_left", "_law_right_here"]) (sc := defScope s_law_right) (by decide +kernel)) (fun _ _ _ _ _ => (pg_name (i := 7) sc_law_right.nd rfl (Or.inl rfl))) (fun _ _ _ _ _ => pts_nil) (fun _ _ _ _ _ => (pe_fo F_law_word (hr.mono (by decide)) (by rfl) (pa_cons (pv 1) (pa_cons (pv 3) (pa_cons (pv 7) pa_nil))))))
     (pss_cons (ps_set (i := 9) sc_law_right.nd rfl (.inl rfl) (pe_fo FwordsN (hr.mono (by decide)) (by rfl) (pa_cons (pv 1) (pa_cons (pv 3) (pa_cons (pv 2) pa_nil)))))
     (pss_cons (ps_if (PW.pt (pw_or (pt_cmpR (r := rNeD K) (op_neD hr.units) (pv 9) (pv 8) (nomark _)) (pw_or1 (pt_cmpR (r := rNeD K) (op_neD hr.units) (pe_fok Fwords_at (hr.mono (by decide)) (by rfl) (pk_cons (pv 2) (pk_cons (pv 3) (pk_cons (pv 1) pk_nil)))) (pv 8) (nomark _))))) (pss_one (ps_ret pe_bl)) pss_nil)
     (pss_cons (ps_if (pt_cmpR (r := rNeD K) (op_neD hr.units) (pe_lc (own := [("_law_place", 7)]) rfl sc_law_right.nd (pi_list (pv 2)) (blkOk_by (own := [("_law_place", 7)]) (N := ["_law_generator_here", "_law_width", "_law_places_here", "_law_some", "_law_more", "_law_kept", "_law_top", "_law_place", "_law_due", "_law_told", "_law_number", "_law_one", "_law_word_here", "_law_other", "_law_others", "_law_longer", "_law_sums", "_law_parts", "_law_left", "_law_right_here"]) (sc := defScope s_law_right) (by decide +kernel)) (fun _ _ _ _ _ => (pg_name (i := 7) sc_law_right.nd rfl (Or.inl rfl))) (fun _ _ _ _ _ => pts_nil) (fun _ _ _ _ _ => (pe_fo Fword_at (hr.mono (by decide)) (by rfl) (pa_cons (pv 1) (pa_cons (pv 3) (pa_cons (pv 7) pa_nil)))))) (pv 8) (nomark _)) (pss_one (ps_ret pe_bl)) pss_nil)
     (pss_cons (ps_expr (pe_bm PySem.F.plainAttrs_list PySem.F.slot_list_append PySem.F.type_list_append mt_append (pv 9) (pa_cons pe_non pa_nil)))
     (pss_cons (ps_set (i := 10) sc_law_right.nd rfl (.inl rfl) (pe_op op_sub (pe_fo F_law_random (hr.mono (by decide)) (by rfl) (pa_cons (pv 0) (pa_cons (pe_op op_mulW pe_int (pe_op op_powW pe_int pe_int)) pa_nil))) (pe_op op_powW pe_int pe_int)))
     (pss_cons (ps_if (pt_cmpR op_ne (pe_fok Fword_at (hr.mono (by decide)) (by rfl) (pk_cons (pv 10) (pk_cons (pv 3) (pk_cons (pv 1) pk_nil)))) (pe_fo F_law_word (hr.mono (by decide)) (by rfl) (pa_cons (pv 1) (pa_cons (pv 3) (pa_cons (pv 10) pa_nil)))) (nomark _)) (pss_one (ps_ret pe_bl)) pss_nil)
     (pss_cons (ps_for PassesOwn.never rfl (pi_zip (by rfl) T.b_zip (pa_cons (pv 2) (pa_cons (pv 8) pa_nil))) (pg_tup rfl (pgs_cons (pg_name (i := 11) sc_law_right.nd rfl (.inl rfl)) (pgs_cons (pg_name (i := 12) sc_law_right.nd rfl (.inl rfl)) pgs_nil)))
      (pss_one (ps_for PassesOwn.never rfl (pi_zip (by rfl) T.b_zip (pa_cons (pv 2) (pa_cons (pv 8) pa_nil))) (pg_tup rfl (pgs_cons (pg_name (i := 7) sc_law_right.nd rfl (.inl rfl)) (pgs_cons (pg_name (i := 13) sc_law_right.nd rfl (.inl rfl)) pgs_nil)))
        (pss_one (ps_if (PW.pt (pw_and (pt_cmpR op_lt (pv 11) (pv 7) (nomark _)) (pw_and1 (pt_cmpR op_ne (pe_op op_mod (pe_callTy (r := rInt1) call_int1 (by rfl) T.b_int (by decide +kernel) (pa_cons (pe_op op_sub (pv 12) (pv 13)) pa_nil)) (pe_fo F_law_power (hr.mono (by decide)) (by rfl) (pa_cons pe_int (pa_cons (pe_callB (r := rMin2) (call_min2 rfl) (by rfl) T.b_min (by decide +kernel) (pa_cons (pe_fo F_law_twos (hr.mono (by decide)) (by rfl) (pa_cons (pe_op op_sub (pv 7) (pv 11)) pa_nil)) (pa_cons (pv 1) pa_nil))) pa_nil)))) pe_int (nomark _))))) (pss_one (ps_ret pe_bl)) pss_nil)))))
     (pss_cons (ps_par (i := 14) (j := 15) rfl sc_law_right.nd rfl rfl (by decide) rfl rfl (pa_cons (pe_fo Fwords_at (hr.mono (by decide)) (by rfl) (pa_cons (pv 1) (pa_cons (pv 4) (pa_cons (pv 2) pa_nil)))) (pa_cons (pe_callB (r := rMax2) (call_max2 rfl) (by rfl) T.b_max (by decide +kernel) (pa_cons (pe_callB (r := rLenS K) call_len_seq (by rfl) T.b_len (by decide +kernel) (pa_cons (pv 3) pa_nil)) (pa_cons (pe_callB (r := rLenS K) call_len_seq (by rfl) T.b_len (by decide +kernel) (pa_cons (pv 4) pa_nil)) pa_nil))) pa_nil)) (by rfl))
     (pss_cons (ps_setLc (i := 16) (own := [("_law_left", 18), ("_law_right_here", 19)]) (g := gTup K 2 (gCons (gName 18) (gCons (gName 19) gNil))) rfl sc_law_right.nd rfl rfl (sw_true rfl rfl rfl (by decide +kernel)) (pi_zip (by rfl) T.b_zip (pa_cons (pe_op op_cat (pv 3) (pe_op op_rep (pe_lst (pa_cons pe_int pa_nil)) (pe_op op_sub (pv 15) (pe_callB (r := rLenS K) call_len_seq (by rfl) T.b_len (by decide +kernel) (pa_cons (pv 3) pa_nil))))) (pa_cons (pe_op op_cat (pv 4) (pe_op op_rep (pe_lst (pa_cons pe_int pa_nil)) (pe_op op_sub (pv 15) (pe_callB (r := rLenS K) call_len_seq (by rfl) T.b_len (by decide +kernel) (pa_cons (pv 4) pa_nil))))) pa_nil))) (blkOk_by (own := [("_law_left", 18), ("_law_right_here", 19)]) (N := ["_law_generator_here", "_law_width", "_law_places_here", "_law_some", "_law_more", "_law_kept", "_law_top", "_law_place", "_law_due", "_law_told", "_law_number", "_law_one", "_law_word_here", "_law_other", "_law_others", "_law_longer", "_law_sums", "_law_parts", "_law_left", "_law_right_here"]) (sc := defScope s_law_right) (by decide +kernel)) (fun _ _ _ _ _ => (pg_tup rfl (pgs_cons (pg_name (i := 18) sc_law_right.nd rfl (Or.inl rfl)) (pgs_cons (pg_name (i := 19) sc_law_right.nd rfl (Or.inl rfl)) pgs_nil)))) (fun _ _ _ _ _ => pts_nil) (fun _ _ _ _ _ => (pe_op op_add (pv 18) (pv 19))))
     (pss_cons (ps_if (pt_cmpR (r := rNeD K) (op_neD hr.units) (pe_fo Fwords_at (hr.mono (by decide)) (by rfl) (pa_cons (pv 1) (pa_cons (pv 16) (pa_cons (pv 2) pa_nil)))) (pe_lc (own := [("_law_left", 18), ("_law_right_here", 19)]) (g := gTup K 2 (gCons (gName 18) (gCons (gName 19) gNil))) rfl sc_law_right.nd (pi_zip (by rfl) T.b_zip (pa_cons (pv 8) (pa_cons (pv 14) pa_nil))) (blkOk_by (own := [("_law_left", 18), ("_law_right_here", 19)]) (N := ["_law_generator_here", "_law_width", "_law_places_here", "_law_some", "_law_more", "_law_kept", "_law_top", "_law_place", "_law_due", "_law_told", "_law_number", "_law_one", "_law_word_here", "_law_other", "_law_others", "_law_longer", "_law_sums", "_law_parts", "_law_left", "_law_right_here"]) (sc := defScope s_law_right) (by decide +kernel)) (fun _ _ _ _ _ => (pg_tup rfl (pgs_cons (pg_name (i := 18) sc_law_right.nd rfl (Or.inl rfl)) (pgs_cons (pg_name (i := 19) sc_law_right.nd rfl (Or.inl rfl)) pgs_nil)))) (fun _ _ _ _ _ => pts_nil) (fun _ _ _ _ _ => (pe_op op_mod (pe_callTy (r := rInt1) call_int1 (by rfl) T.b_int (by decide +kernel) (pa_cons (pe_op op_add (pv 18) (pv 19)) pa_nil)) (pv 6)))) (nomark _)) (pss_one (ps_ret pe_bl)) pss_nil)
     (pss_cons (ps_setLc (i := 17) (own := [("_law_place", 7), ("_law_left", 18), ("_law_right_here", 19)]) (g := gTup K 3 (gCons (gName 7) (gCons (gName 18) (gCons (gName 19) gNil)))) rfl sc_law_right.nd rfl rfl (sw_true rfl rfl rfl (by decide +kernel)) (pi_zip3 (by rfl) T.b_zip (pa_cons (pv 2) (pa_cons (pv 8) (pa_cons (pv 14) pa_nil)))) (blkOk_by (own := [("_law_place", 7), ("_law_left", 18), ("_law_right_here", 19)]) (N := ["_law_generator_here", "_law_width", "_law_places_here", "_law_some", "_law_more", "_law_kept", "_law_top", "_law_place", "_law_due", "_law_told", "_law_number", "_law_one", "_law_word_here", "_law_other", "_law_others", "_law_longer", "_law_sums", "_law_parts", "_law_left", "_law_right_here"]) (sc := defScope s_law_right) (by decide +kernel)) (fun _ _ _ _ _ => (pg_tup rfl (pgs_cons (pg_name (i := 7) sc_law_right.nd rfl (Or.inl rfl)) (pgs_cons (pg_name (i := 18) sc_law_right.nd rfl (Or.inl rfl)) (pgs_cons (pg_name (i := 19) sc_law_right.nd rfl (Or.inl rfl)) pgs_nil))))) (fun _ _ _ _ _ => (pts_one (pt_cmpR op_ne (pv 18) (pv 19) (nomark _)))) (fun _ _ _ _ _ => (pv 7)))
     (pss_cons (ps_if (PW.pt (pw_or (pt_cmpR (r := rNeD K) (op_neD hr.units) (pe_fo Fparting_places (hr.mono (by decide)) (by rfl) (pa_cons (pv 1) (pa_cons (pv 2) (pa_cons (pv 8) (pa_cons (pv 14) pa_nil))))) (pv 17) (nomark _)) (pw_or1 (pt_cmpR (r := rNeNil K) (op_neNil hr.units0) (pe_fo Fparting_places (hr.mono (by decide)) (by rfl) (pa_cons (pv 1) (pa_cons (pv 2) (pa_cons (pv 8) (pa_cons (pe_callTy (r := rListS K) call_list_of (by rfl) T.b_list (by decide +kernel) (pa_cons (pv 8) pa_nil)) pa_nil))))) (pe_lst pa_nil) (nomark _))))) (pss_one (ps_ret pe_bl)) pss_nil)
     (pss_cons (ps_if (pt_cmpR (r := rNeD K) (op_neD hr.units) (pe_fok Fparting_places (hr.mono (by decide)) (by rfl) (pk_cons (pv 8) (pk_cons (pv 14) (pk_cons (pv 2) (pk_cons (pv 1) pk_nil))))) (pv 17) (nomark _)) (pss_one (ps_ret pe_bl)) pss_nil)
     (pss_cons (ps_if (pt_cmpR op_ne (pe_callB (r := rRepr K) (call_reprD ng hr.units) (by rfl) T.b_repr (by decide +kernel) (pa_cons (pe_lst (pa_cons (pv 2) (pa_cons (pv 3) (pa_cons (pv 4) pa_nil)))) pa_nil)) (pv 5) (nomark _)) (pss_one (ps_ret pe_bl)) pss_nil)
     (pss_cons (ps_set (i := 10) sc_law_right.nd rfl (.inl rfl) (pe_op op_mulW (pe_op op_add pe_int (pe_op op_mulW pe_int (pe_fo F_law_random (hr.mono (by decide)) (by rfl) (pa_cons (pv 0) (pa_cons pe_int pa_nil))))) (pe_fo F_law_power (hr.mono (by decide)) (by rfl) (pa_cons pe_int (pa_cons (pe_fo F_law_random (hr.mono (by decide)) (by rfl) (pa_cons (pv 0) (pa_cons pe_int pa_nil))) pa_nil)))))
     (pss_one (ps_ret (pe_and (pe_cmpR op_eq (pe_fo Ftwos_in (hr.mono (by decide)) (by rfl) (pa_cons (pv 10) pa_nil)) (pe_fo F_law_twos (hr.mono (by decide)) (by rfl) (pa_cons (pv 10) pa_nil)) (nomark _)) (pe_one (pe_cmpR op_eq (pe_fok Ftwos_in (hr.mono (by decide)) (by rfl) (pk_cons (pe_op op_sub pe_int (pv 10)) pk_nil)) (pe_fo F_law_twos (hr.mono (by decide)) (by rfl) (pa_cons (pv 10) pa_nil)) (nomark _))))))))))))))))))))))))), fun σ Q en q => ?_⟩
  have n0 := Nx.refl at0
  subst hp
  have hz1 : z0 + 1000000 ≤ 2 ^ 50 := hz
  have e29 : (10 : Int) ^ (29 : Int).toNat = 100000000000000000000000000000 := by decide
  have up : ∀ {n : Int}, n.natAbs < 2 ^ 100 → n.natAbs < 2 ^ 200 := fun h => Nat.lt_trans h (by decide)
  have up2 : ∀ {n : Int}, n.natAbs < 2 ^ 200 → n.natAbs < 2 ^ 250 := fun h => Nat.lt_trans h (by decide)
  refine q_asgS at0 n0 en (i := 1) (A := wOk) (ty_ixN (A := fun xs : List Int => xs.length = 2 ∧ ∀ x ∈ xs, wOk x) ((ty_lst (tl_consN (ty_I0N (f := fun a b => a + b) ty_i (y_random (ty_var rfl) ty_i (small_b (by decide) (by decide)))) (tl_consN (ty_I0N (f := fun a b => a + b) ty_i (y_random (ty_var rfl) ty_i (small_b (by decide) (by decide)))) tl_nil)) (fun xs h => by obtain ⟨_, _, rfl, _, _, _, rfl, _, rfl⟩ := h; simp)).imp fun xs h => ?_) (y_random (ty_var rfl) ty_i (small_b (by decide) (by decide))) fun xs j h hj => ?_) (by omega) fun wd z' B' H' σ' hw _ n en => ?_
  · obtain ⟨x, r, rfl, ⟨a, b, ea, hb, ex⟩, y, r2, rfl, ⟨a2, b2, ea2, hb2, ey⟩, rfl⟩ := h
    refine ⟨rfl, fun u hu => ?_⟩
    have hb : 0 ≤ b ∧ b < 5 := hb
    have hb2 : 0 ≤ b2 ∧ b2 < 64 := hb2
    have ex : x = a + b := ex
    have ey : y = a2 + b2 := ey
    unfold wOk
    rcases List.mem_cons.mp hu with rfl | hu
    · omega
    · rw [List.mem_singleton.mp hu]; omega
  · have hj : 0 ≤ j ∧ j < 2 := hj
    refine ⟨_, atI_in hj.1 (by omega), h.2 _ ?_⟩
    rw [List.getD_eq_getElem?_getD, List.getElem?_eq_getElem (by omega)]
    exact List.getElem_mem _
  have hw' : 1 ≤ wd ∧ wd ≤ 64 := hw
  obtain ⟨tp, tp2⟩ := two_pow wd (by omega) (by omega)
  refine q_par3T at0 n en (y_lplaces (ty_var rfl) (ty_var (x := wd) rfl) ty_i ⟨hw, by decide, by decide⟩) (y_coef (ty_var rfl)) (y_coef (ty_var rfl)) (by omega) fun ps cs ds z' B' H' σ' hps hcs hds _ n en => ?_
  have pl := hps.places
  have lps : ps.length ≤ 100 := hps.2.1
  have p64 : (2 : Int) ^ wd.toNat ≤ 2 ^ 64 := by
    rw [two_cast', two_cast']
    have := Nat.pow_le_pow_right (n := 2) (by decide) (show wd.toNat ≤ 64 by omega)
    omega
  have e64 : (2 : Int) ^ 64 = 18446744073709551616 := by decide
  have sm64 : ∀ {n : Int}, 0 ≤ n → n < 2 ^ wd.toNat → n.natAbs < 2 ^ 100 := fun h0 h1 => Nat.lt_of_lt_of_le (show _ < 18446744073709551616 by omega) (by decide)
  have bps : ∀ p ∈ ps, p.natAbs < 2 ^ 100 := fun p hp => sm64 (hps.2.2.1 p hp).1 (hps.2.2.1 p hp).2
  have lo : ∀ {es : List Int}, Co es → es.length ≤ 20 ∧ ∀ c ∈ es, c.natAbs < 2 ^ 200 := fun h => ⟨by have := h.1; omega, fun c hc => up (h.2 c hc)⟩
  have co : ∀ {es : List Int}, Co es → coOk es := fun h => ⟨by have := h.1; omega, fun c hc => up2 (up (h.2 c hc))⟩
  have bw : ∀ es : List Int, ∀ x ∈ ps.map (fun p => polyS es p % 2 ^ wd.toNat), 0 ≤ x ∧ x < 2 ^ wd.toNat := fun es x hx => by
    obtain ⟨p, _, rfl⟩ := List.mem_map.mp hx
    exact ⟨Int.emod_nonneg _ (by omega), Int.emod_lt_of_pos _ tp⟩
  have bw1 : ∀ es : List Int, ∀ x ∈ ps.map (fun p => polyS es p % 2 ^ wd.toNat), x.natAbs < 2 ^ 100 := fun es x hx => sm64 (bw es x hx).1 (bw es x hx).2
  have wok : ∀ es : List Int, wsOk wd ps (ps.map fun p => polyS es p % 2 ^ wd.toNat) := fun es => by
    refine ⟨?_, by rw [List.length_map]; omega⟩
    show (((ps.map fun p => polyS es p % 2 ^ wd.toNat).map Dat.int).all (Dat.word wd) && decide (((ps.map fun p => polyS es p % 2 ^ wd.toNat).map Dat.int).length = ps.length)) = true
    rw [decide_eq_true (by rw [List.length_map, List.length_map]), Bool.and_true, List.all_map]
    exact List.all_eq_true.mpr fun x hx => word_of (bw es x hx)
  have rk : Rp 2 100000 (kept3 ps cs ds) := rp_kept3 (rp_small bps (by omega)) (rp_small hcs.2 (by have := hcs.1; omega)) (rp_small hds.2 (by have := hds.1; omega))
  refine q_parT at0 n en (ty_repr (d := kept3 ps cs ds) (ty_lit (tl_cons ((ty_var (x := ps) rfl).datInts.datLst) (tl_cons ((ty_var (x := cs) rfl).datInts.datLst) (tl_cons ((ty_var (x := ds) rfl).datInts.datLst) tl_nil))) (by simp)).datLst rk (by decide) (by decide)) (y_power ty_i (ty_var (x := wd) rfl) ⟨by omega, by omega, by decide⟩) (by omega) fun kept top z' B' H' σ' ek et _ n en => ?_
  subst et
  refine q_asgS at0 n en (i := 8) (ty_lcM (f := fun p => polyS cs p % 2 ^ wd.toNat) (ty_var (x := ps) rfl) (by omega) (by simp) fun p hp => y_lword (ty_var (x := wd) rfl) (ty_var (x := cs) rfl) (ty_var (x := p) rfl) ⟨hw, lo hcs, up (bps p hp)⟩) (by omega) fun due zo Bo Ho σo ed _ n en => ?_
  subst ed
  have en0 := en
  have gd : ∀ {xs : List Int} k, k < xs.length → xs[k]? = some (xs.getD k 0) := fun k hk => by rw [List.getD_eq_getElem?_getD, List.getElem?_eq_getElem hk] <;> rfl
  have gdue : ∀ (es : List Int) k, k < ps.length → (ps.map fun p => polyS es p % 2 ^ wd.toNat).getD k 0 = polyS es (ps.getD k 0) % 2 ^ wd.toNat := fun es k hk => by
    rw [List.getD_eq_getElem?_getD, List.getElem?_map, gd k hk] <;> rfl
  have ldue : ∀ es : List Int, (ps.map fun p => polyS es p % 2 ^ wd.toNat).length = ps.length := fun es => List.length_map ..
  refine q_asgLS (c := 0) at0 n en (i := 9) (tn_call (C := cWordsOf) (wd, cs, ps) (ta_cons (ty_var (x := wd) rfl) (ta_cons (ty_var (x := cs) rfl) (ta_cons (ty_var (x := ps) rfl) ta_nil))) ⟨hw, co hcs, pl⟩) (by omega) fun told l z1 B1 H1 et s1 n nBl nl0 hBl en => ?_
  have et : told = ps.map fun p => polyS cs p % 2 ^ wd.toNat := et
  subst et
  refine q_not at0 n en ((tt_or (c2 := 0) (tt_test (ty_neD (ty_var (x := LAt.mk l (ps.map fun p => polyS cs p % 2 ^ wd.toNat)) rfl).lat.datInts.datLst (ty_var (x := ps.map fun p => polyS cs p % 2 ^ wd.toNat) rfl).datInts.datLst (rp_ints (bw1 cs)) (rp_ints (bw1 cs)) (by decide) (by decide))) fun _ => tt_test (ty_neD (k_wordsOf (ty_var (x := wd) rfl) (ty_var (x := cs) rfl) (ty_var (x := ps) rfl) ⟨hw, co hcs, pl⟩).datInts.datLst (ty_var (x := ps.map fun p => polyS cs p % 2 ^ wd.toNat) rfl).datInts.datLst (rp_ints (bw1 cs)) (rp_ints (bw1 cs)) (by decide) (by decide))).to (by rw [same_ints (bw1 cs)] <;> rfl)) (by omega) fun z2 B2 H2 s2 n en => ?_
  refine q_not at0 n en ((tt_test (ty_neD (ty_lcM (f := fun p => polyS cs p % 2 ^ wd.toNat) (ty_var (x := ps) rfl) (by omega) (by simp) fun p hp => y_worth (ty_var (x := wd) rfl) (ty_var (x := cs) rfl) (ty_var (x := p) rfl) ⟨hw, co hcs, up2 (up (bps p hp))⟩).datInts.datLst (ty_var (x := ps.map fun p => polyS cs p % 2 ^ wd.toNat) rfl).datInts.datLst (rp_ints (bw1 cs)) (rp_ints (bw1 cs)) (by decide) (by decide))).to (by rw [same_ints (bw1 cs)] <;> rfl)) (by omega) fun z3 B3 H3 s3 n en => ?_
  have b0l : B0 l = none := at0.none nl0
  obtain ⟨n, hl⟩ := n.thaw (s3.up _ _ (s2.up _ _ hBl)) b0l
  have exT : Ex Bo (fun a => if a = l then none else B3 a) := fun a o h => by
    have ne : a ≠ l := fun e => by rw [e, nBl] at h; cases h
    show (if a = l then none else B3 a) = some o
    rw [if_neg ne]
    exact s3.up _ _ (s2.up _ _ (s1.up _ _ h))
  have en := (en0.up exT).set (i := 9) (v := V.ref l) (P := RefP l) RefP.stays rfl
  refine q_appS at0 n en (k := 9) rfl hl (if_pos rfl) nl0 (by simp; omega) ty_n (by omega) fun _ v z4 B4 H4 _ hv _ n en hl4 nl4 _ _ => ?_
  refine q_asgS at0 n en (i := 10) (A := fun n => n.natAbs < 2 ^ 100) ((ty_I0N (f := fun a b => a - b) (A := fun a => 0 ≤ a ∧ a < 2 * 10 ^ (29 : Int).toNat) (A' := (· = 10 ^ (29 : Int).toNat)) (y_random (ty_var rfl) (ty_I (C := CMulW) (f := fun a b => a * b) ty_i (ty_I (C := PowOk) (f := fun a b => a ^ b.toNat) ty_i ty_i pow_29) (wide_mul (a := 3) (b := 100) (by decide) (by decide +kernel) (by decide) (by decide) (by decide))) (small_b (by decide +kernel) (by decide +kernel))) (ty_I (C := PowOk) (f := fun a b => a ^ b.toNat) ty_i ty_i pow_29)).imp fun y ⟨a, b, ha, hb, ey⟩ => ?_) (by omega) fun num z' B' H' σ' hnum _ n en => ?_
  · have ey : y = a - b := ey
    rw [e29] at ha hb
    exact Nat.lt_of_le_of_lt (show y.natAbs ≤ 100000000000000000000000000000 by omega) (by decide)
  have hnum : num.natAbs < 2 ^ 100 := hnum
  refine q_not at0 n en ((tt_test (ty_neI (k_worth (ty_var (x := wd) rfl) (ty_var (x := cs) rfl) (ty_var (x := num) rfl) ⟨hw, co hcs, up2 (up hnum)⟩) (y_lword (ty_var (x := wd) rfl) (ty_var (x := cs) rfl) (ty_var (x := num) rfl) ⟨hw, lo hcs, up hnum⟩))).to (by rw [decide_eq_true rfl] <;> rfl)) (by omega) fun z' B' H' _ n en => ?_
  refine q_forS at0 n en (cb := 0) (ti_zip (ta_cons (ty_var (x := ps) rfl) (ta_cons (ty_var (x := ps.map fun p => polyS cs p % 2 ^ wd.toNat) rfl) ta_nil))) (by omega)
    (fun _ Γ _ _ => ∃ o7 o11 o12 o13 : Option VP, Γ = [some (Py.is (GenR.mk i)), some (Py.is wd), some (Py.is ps), some (Py.is cs), some (Py.is ds), some (Py.is kept), some (Py.is ((2 : Int) ^ wd.toNat)), o7, some (Py.is (ps.map fun p => polyS cs p % 2 ^ wd.toNat)), some (RefP l), some (Py.is num), o11, o12, o13, none, none, none, none, none, none])
    (fun _ _ _ _ _ => ⟨none, none, none, none, rfl⟩) (fun _ _ _ _ _ h _ => h) (fun m em Bs k Γ' z' B' H' σ' hk inv eb n en => ?_) fun m em Γ' z' B' H' σ' inv n en => ?_
  · obtain ⟨o7, o11, o12, o13, rfl⟩ := inv
    have hk : k < ps.length := by rw [em, ldue] at hk; omega
    dsimp only [List.set] at en
    rw [itm_eq (gd k hk), itm_eq (gd (xs := ps.map fun p => polyS cs p % 2 ^ wd.toNat) k (by rw [ldue]; exact hk)), gdue cs k hk] at en
    refine q_for at0 n en (cb := 0) (ti_zip (ta_cons (ty_var (x := ps) rfl) (ta_cons (ty_var (x := ps.map fun p => polyS cs p % 2 ^ wd.toNat) rfl) ta_nil))) (by simp; omega)
      (fun _ Γ B _ => (∃ o7 o13 : Option VP, Γ = [some (Py.is (GenR.mk i)), some (Py.is wd), some (Py.is ps), some (Py.is cs), some (Py.is ds), some (Py.is kept), some (Py.is ((2 : Int) ^ wd.toNat)), o7, some (Py.is (ps.map fun p => polyS cs p % 2 ^ wd.toNat)), some (RefP l), some (Py.is num), some (Py.is (ps.getD k 0)), some (Py.is (polyS cs (ps.getD k 0) % 2 ^ wd.toNat)), o13, none, none, none, none, none, none]) ∧ Ex Bs B)
      (fun _ _ _ s4 _ => ⟨⟨_, _, rfl⟩, eb.trans s4.up⟩) (fun _ _ _ _ _ h _ => h) (fun m em Bt j Γ' z' B' H' σ' hj inv ebt n en => ?_) fun m em Γ' z' B' H' σ' inv n en => ?_
    · obtain ⟨⟨o7, o13, rfl⟩, ebs⟩ := inv
      have hj : j < ps.length := by rw [em, ldue] at hj; omega
      dsimp only [List.set] at en
      rw [itm_eq (gd j hj), itm_eq (gd (xs := ps.map fun p => polyS cs p % 2 ^ wd.toNat) j (by rw [ldue]; exact hj)), gdue cs j hj] at en
      have ra := hps.2.2.1 _ (List.mem_of_getElem? (gd k hk))
      have rb := hps.2.2.1 _ (List.mem_of_getElem? (gd j hj))
      refine s_not at0 n en ((tt_and (c2 := 0) (b := false) (tt_test (ty_B0 (p := fun a b => decide (a < b)) (ty_var (x := ps.getD k 0) rfl) (ty_var (x := ps.getD j 0) rfl))) fun hlt => (tt_test (ty_neI (ty_I (C := fun _ j => 0 < j) (f := fun a b => a % b) (ty_int (ty_I0 (f := fun a b => a - b) (ty_var (x := polyS cs (ps.getD k 0) % 2 ^ wd.toNat) rfl) (ty_var (x := polyS cs (ps.getD j 0) % 2 ^ wd.toNat) rfl))) (y_power ty_i (ty_min2 (y_twosNz (ty_I0 (f := fun a b => a - b) (ty_var (x := ps.getD j 0) rfl) (ty_var (x := ps.getD k 0) rfl)) ⟨?_, ?_⟩) (ty_var (x := wd) rfl)) ⟨?_, ?_, by decide⟩) ?_) ty_i)).to ?_).to (Bool.and_false _)) (by simp; omega) fun z' B' H' s5 n en => ⟨_, z', B', ⟨⟨_, _, rfl⟩, ebs.trans s5.up⟩, ebt.trans s5.up, n.le (by simp), en⟩
      · have := of_decide_eq_true hlt; omega
      · exact Nat.lt_of_lt_of_le (show _ < 18446744073709551616 by omega) (by decide)
      · have := twos_nonneg (ps.getD j 0 - ps.getD k 0); split <;> omega
      · split <;> omega
      · exact Int.pow_pos (by decide)
      · have hlt : ps.getD k 0 < ps.getD j 0 := of_decide_eq_true hlt
        have t0 := twos_nonneg (ps.getD j 0 - ps.getD k 0)
        have td := twos_dvd _ (n := ps.getD j 0 - ps.getD k 0) (by omega) (Nat.le_refl _)
        have := words_rest (cs := cs) (a := ps.getD k 0) (b := ps.getD j 0) (w := wd.toNat) (m := (if wd < twos (ps.getD j 0 - ps.getD k 0) then wd else twos (ps.getD j 0 - ps.getD k 0)).toNat) (Int.dvd_trans (pow_dvd_pow (by split <;> omega)) td) (by split <;> omega)
        rw [this] <;> rfl
    · obtain ⟨⟨o7, o13, rfl⟩, ebs⟩ := inv
      exact ⟨_, z', B', ⟨_, _, _, _, rfl⟩, ebs, n.le (by simp), en⟩
  obtain ⟨o7, o11, o12, o13, rfl⟩ := inv
  have ldsum : (cs ++ List.replicate ((if (ds.length : Int) > cs.length then (ds.length : Int) else cs.length) - cs.length).toNat 0).length = (ds ++ List.replicate ((if (ds.length : Int) > cs.length then (ds.length : Int) else cs.length) - ds.length).toNat 0).length := by
    rw [List.length_append, List.length_append, List.length_replicate, List.length_replicate]
    split <;> omega
  refine q_par at0 n en (y_wordsOf (ty_var (x := wd) rfl) (ty_var (x := ds) rfl) (ty_var (x := ps) rfl) ⟨hw, co hds, pl⟩) (ty_max2 (ty_len (ty_var (x := cs) rfl)) (ty_len (ty_var (x := ds) rfl))) (by simp; omega) fun others longer z' B' H' σ' eo el _ n en => ?_
  subst eo
  have el : longer = if (ds.length : Int) > cs.length then (ds.length : Int) else cs.length := el
  have lg : longer ≤ 8 ∧ (cs.length : Int) ≤ longer ∧ (ds.length : Int) ≤ longer := by
    have a := hcs.1
    have b := hds.1
    split at el <;> omega
  have lpa : (cs ++ List.replicate (longer - cs.length).toNat 0).length = longer.toNat := by rw [List.length_append, List.length_replicate]; omega
  have lpb : (ds ++ List.replicate (longer - ds.length).toNat 0).length = longer.toNat := by rw [List.length_append, List.length_replicate]; omega
  refine q_asgS (c := 0) at0 n en (i := 16) (A := (· = addL (cs ++ List.replicate (longer - cs.length).toNat 0) (ds ++ List.replicate (longer - ds.length).toNat 0))) (Ty.le (c2 := 0) ((ty_lc (M := 100) (ct := 0) (cb := 0) (T := fun _ b => b = (fun _ => true) (0 : Nat)) (A := fun k y => y = (cs ++ List.replicate (longer - cs.length).toNat 0).getD k 0 + (ds ++ List.replicate (longer - ds.length).toNat 0).getD k 0)
    (ti_zip (xs := cs ++ List.replicate (longer - cs.length).toNat 0) (ys := ds ++ List.replicate (longer - ds.length).toNat 0) (ta_cons ((ty_cat (ty_var (x := cs) rfl) (ty_rep (ty_lit (xs := [(0 : Int)]) (tl_cons ty_i tl_nil) (by simp)) (ty_I0 (f := fun a b => a - b) (ty_var (x := longer) rfl) (ty_len (ty_var (x := cs) rfl))) ⟨by omega, by omega⟩ (by simp; omega)) (by rw [rep0, List.length_replicate]; omega)).to (by rw [rep0])) (ta_cons ((ty_cat (ty_var (x := ds) rfl) (ty_rep (ty_lit (xs := [(0 : Int)]) (tl_cons ty_i tl_nil) (by simp)) (ty_I0 (f := fun a b => a - b) (ty_var (x := longer) rfl) (ty_len (ty_var (x := ds) rfl))) ⟨by omega, by omega⟩ (by simp; omega)) (by rw [rep0, List.length_replicate]; omega)).to (by rw [rep0])) ta_nil)))
    (fun m e => by rw [e, lpa, lpb]; omega) (by decide) (by simp) (fun m em k hk => tt_yes) fun m em k hk _ => ?_).imp fun ys ⟨m, em, sel⟩ => ?_) (by simp)) (by omega) fun sums z' B' H' σ' esum _ n en => ?_
  · have hk : k < longer.toNat := by rw [em, lpa, lpb] at hk; omega
    show AP.Ty (some i) 0 _ (((wipeC _ _).set 18 (some (itm _ k))).set 19 (some (itm _ k))) _
    rw [itm_eq (gd k (by rw [lpa]; exact hk)), itm_eq (gd k (by rw [lpb]; exact hk))]
    refine Ty.le (c1 := 0 + 0) (ty_I0 (f := fun a b => a + b) (i := (cs ++ List.replicate (longer - cs.length).toNat 0).getD k 0) (j := (ds ++ List.replicate (longer - ds.length).toNat 0).getD k 0) ?_ ?_) (Nat.le_refl _)
    · exact ty_var rfl
    · exact ty_var rfl
  rotate_left 1
  · rw [sel_det (fun _ => true) _ (fun _ _ q => q) (fun _ _ q => q) sel, List.filter_eq_self.mpr fun _ _ => rfl, em, lpb, lpa, Nat.min_self, ← lpa]
    exact addL_range (by rw [lpa, lpb])
  subst esum
  have cosum : coOk (addL (cs ++ List.replicate (longer - cs.length).toNat 0) (ds ++ List.replicate (longer - ds.length).toNat 0)) := by
    refine ⟨by rw [addL_len (by rw [lpa, lpb]), lpa]; omega, fun c hc => ?_⟩
    obtain ⟨a, ha, b, hb, e⟩ := addL_mem (P := fun _ _ => True) hc
    have small : ∀ {es : List Int} {n : Nat} {a : Int}, Co es → a ∈ es ++ List.replicate n 0 → a.natAbs < 2 ^ 100 := fun h ha => by
      rcases List.mem_append.mp ha with ha | ha
      · exact h.2 _ ha
      · rw [(List.mem_replicate.mp ha).2]; decide
    have h1 := small hcs ha
    have h2 := small hds hb
    have : c.natAbs < 2 ^ 101 := by
      have : (2 : Nat) ^ 101 = 2 ^ 100 + 2 ^ 100 := by decide
      omega
    exact Nat.lt_trans this (by decide)
  have same : (ps.map fun p => polyS (addL (cs ++ List.replicate (longer - cs.length).toNat 0) (ds ++ List.replicate (longer - ds.length).toNat 0)) p % 2 ^ wd.toNat) = (List.range ps.length).map fun k => ((ps.map fun p => polyS cs p % 2 ^ wd.toNat).getD k 0 + (ps.map fun p => polyS ds p % 2 ^ wd.toNat).getD k 0) % 2 ^ wd.toNat := by
    refine List.ext_getElem (by simp) fun k h1 h2 => ?_
    have hk : k < ps.length := by simpa using h1
    rw [List.getElem_map, List.getElem_map, List.getElem_range, gdue cs k hk, gdue ds k hk, polyS_add _ (by rw [lpa, lpb]), polyS_pad, polyS_pad, show ps.getD k 0 = ps[k] by rw [List.getD_eq_getElem?_getD, List.getElem?_eq_getElem hk] <;> rfl, ← Int.add_emod]
  refine q_not at0 n en ((tt_test (ty_neD ((y_wordsOf (ty_var (x := wd) rfl) (ty_var (x := addL (cs ++ List.replicate (longer - cs.length).toNat 0) (ds ++ List.replicate (longer - ds.length).toNat 0)) rfl) (ty_var (x := ps) rfl) ⟨hw, cosum, pl⟩).datInts.datLst)
    ((Ty.le (c2 := 0) ((ty_lc (M := 100) (ct := 0) (cb := 0) (T := fun _ b => b = (fun _ => true) (0 : Nat)) (A := fun k y => y = ((ps.map fun p => polyS cs p % 2 ^ wd.toNat).getD k 0 + (ps.map fun p => polyS ds p % 2 ^ wd.toNat).getD k 0) % 2 ^ wd.toNat) (ti_zip (ta_cons (ty_var (x := ps.map fun p => polyS cs p % 2 ^ wd.toNat) rfl) (ta_cons (ty_var (x := ps.map fun p => polyS ds p % 2 ^ wd.toNat) rfl) ta_nil))) (fun m e => by rw [e, ldue]; omega) (by decide) (by simp) (fun m em k hk => tt_yes) fun m em k hk _ => ?_).imp (A' := (· = ps.map fun p => polyS (addL (cs ++ List.replicate (longer - cs.length).toNat 0) (ds ++ List.replicate (longer - ds.length).toNat 0)) p % 2 ^ wd.toNat)) fun ys ⟨m, em, sel⟩ => ?_) (by simp)).datInts.datLst) (rp_ints (bw1 _)) (rp_ints (bw1 _)) (by decide) (by decide))).to (by rw [same_ints (bw1 _)] <;> rfl)) (by omega) fun z' B' H' _ n en => ?_
  · have hk : k < ps.length := by rw [em, ldue, ldue] at hk; omega
    show AP.Ty (some i) 0 _ (((wipeC _ _).set 18 (some (itm _ k))).set 19 (some (itm _ k))) _
    rw [itm_eq (gd k (by rw [ldue]; exact hk)), itm_eq (gd k (by rw [ldue]; exact hk))]
    exact ty_I (C := fun _ j => 0 < j) (f := fun a b => a % b) (ty_int (ty_I0 (f := fun a b => a + b) (ty_var (x := (ps.map fun p => polyS cs p % 2 ^ wd.toNat).getD k 0) rfl) (ty_var (x := (ps.map fun p => polyS ds p % 2 ^ wd.toNat).getD k 0) rfl))) (ty_var (x := (2 : Int) ^ wd.toNat) rfl) tp
  · rw [sel_det (fun _ => true) _ (fun _ _ q => q) (fun _ _ q => q) sel, List.filter_eq_self.mpr fun _ _ => rfl, em, ldue, ldue, Nat.min_self, same]
  have bparts : ∀ ws os : List Int, ∀ x ∈ partsL ps ws os, x.natAbs < 2 ^ 100 := fun ws os x hx => bps x (parts_mem hx)
  refine q_asgS (c := 0) at0 n en (i := 17) (A := (· = partsL ps (ps.map fun p => polyS cs p % 2 ^ wd.toNat) (ps.map fun p => polyS ds p % 2 ^ wd.toNat))) (Ty.le (c2 := 0) ((ty_lc (M := 100) (ct := 0) (cb := 0) (T := fun k b => b = !decide ((ps.map fun p => polyS cs p % 2 ^ wd.toNat).getD k 0 = (ps.map fun p => polyS ds p % 2 ^ wd.toNat).getD k 0)) (A := fun k y => y = ps.getD k 0) (ti_zip3 (ta_cons (ty_var (x := ps) rfl) (ta_cons (ty_var (x := ps.map fun p => polyS cs p % 2 ^ wd.toNat) rfl) (ta_cons (ty_var (x := ps.map fun p => polyS ds p % 2 ^ wd.toNat) rfl) ta_nil)))) (fun m e => by omega) (by decide) (by simp) (fun m em k hk => ?_) fun m em k hk _ => ?_).imp fun ys ⟨m, em, sel⟩ => ?_) (by simp)) (by omega) fun parts z' B' H' σ' ep _ n en => ?_
  · have hk : k < ps.length := by omega
    show TyT (some i) 0 _ ((((wipeC _ _).set 7 (some (itm ps k))).set 18 (some (itm _ k))).set 19 (some (itm _ k))) _
    rw [itm_eq (gd k hk), itm_eq (gd k (by rw [ldue]; exact hk)), itm_eq (gd k (by rw [ldue]; exact hk))]
    exact tt_test (ty_neI (ty_var (x := (ps.map fun p => polyS cs p % 2 ^ wd.toNat).getD k 0) rfl) (ty_var (x := (ps.map fun p => polyS ds p % 2 ^ wd.toNat).getD k 0) rfl))
  · have hk : k < ps.length := by omega
    show AP.Ty (some i) 0 _ ((((wipeC _ _).set 7 (some (itm ps k))).set 18 (some (itm _ k))).set 19 (some (itm _ k))) _
    rw [itm_eq (gd k hk), itm_eq (gd k (by rw [ldue]; exact hk)), itm_eq (gd k (by rw [ldue]; exact hk))]
    exact ty_var (x := ps.getD k 0) rfl
  · have em : m = ps.length := by rw [em, ldue, ldue]; omega
    subst em
    exact sel_det _ _ (fun _ _ q => q) (fun _ _ q => q) sel
  subst ep
  refine q_not at0 n en ((tt_or (c2 := 0) (tt_test (ty_neD (y_parting (ty_var (x := wd) rfl) (ty_var (x := ps) rfl) (ty_var (x := ps.map fun p => polyS cs p % 2 ^ wd.toNat) rfl) (ty_var (x := ps.map fun p => polyS ds p % 2 ^ wd.toNat) rfl) ⟨hw, pl, wok cs, wok ds⟩).datInts.datLst (ty_var (x := partsL ps (ps.map fun p => polyS cs p % 2 ^ wd.toNat) (ps.map fun p => polyS ds p % 2 ^ wd.toNat)) rfl).datInts.datLst (rp_ints (bparts _ _)) (rp_ints (bparts _ _)) (by decide) (by decide))) fun _ => tt_test (ty_neNil (c := 0) (y_parting (ty_var (x := wd) rfl) (ty_var (x := ps) rfl) (ty_var (x := ps.map fun p => polyS cs p % 2 ^ wd.toNat) rfl) (ty_listOf (ty_var (x := ps.map fun p => polyS cs p % 2 ^ wd.toNat) rfl)) ⟨hw, pl, wok cs, wok cs⟩))).to (by rw [same_ints (bparts _ _), parts_same] <;> rfl)) (by omega) fun z' B' H' _ n en => ?_
  refine q_not at0 n en ((tt_test (ty_neD ((k_parting (ty_var (x := wd) rfl) (ty_var (x := ps) rfl) (ty_var (x := ps.map fun p => polyS ds p % 2 ^ wd.toNat) rfl) (ty_var (x := ps.map fun p => polyS cs p % 2 ^ wd.toNat) rfl) ⟨hw, pl, wok ds, wok cs⟩).to (parts_comm _ _ _)).datInts.datLst (ty_var (x := partsL ps (ps.map fun p => polyS cs p % 2 ^ wd.toNat) (ps.map fun p => polyS ds p % 2 ^ wd.toNat)) rfl).datInts.datLst (rp_ints (bparts _ _)) (rp_ints (bparts _ _)) (by decide) (by decide))).to (by rw [same_ints (bparts _ _)] <;> rfl)) (by omega) fun z' B' H' _ n en => ?_
  refine q_not at0 n en ((tt_test (ty_neS (ty_repr (d := kept3 ps cs ds) (ty_lit (tl_cons ((ty_var (x := ps) rfl).datInts.datLst) (tl_cons ((ty_var (x := cs) rfl).datInts.datLst) (tl_cons ((ty_var (x := ds) rfl).datInts.datLst) tl_nil))) (by simp)).datLst rk (by decide) (by decide)) (ty_var (x := kept) rfl))).to (by rw [ek, decide_eq_true rfl] <;> rfl)) (by omega) fun z' B' H' _ n en => ?_
  refine q_asgS at0 n en (i := 10) (A := fun n : Int => n ≠ 0 ∧ n.natAbs < 2 ^ 200) ((ty_IN (C := CMulW) (f := fun a b => a * b) (A := fun a : Int => 1 ≤ a ∧ a ≤ 3000) (A' := fun b : Int => 1 ≤ b ∧ b.natAbs < 2 ^ 100) ((ty_I0N (f := fun a b => a + b) (A := (· = (1 : Int))) (A' := fun b : Int => 0 ≤ b ∧ b < 2000) ty_i ((ty_IN (C := CMulW) (f := fun a b => a * b) (A := (· = (2 : Int))) ty_i (y_random (ty_var rfl) ty_i (small_b (by decide) (by decide))) fun a b ea hb => ?_).imp fun y ⟨a, b, ea, hb, ey⟩ => ?_)).imp fun y ⟨a, b, ea, hb, ey⟩ => ?_) ((y_powerN ty_i (y_random (ty_var rfl) ty_i (small_b (by decide) (by decide))) fun t ht => ?_).imp fun y ⟨t, ht, ey⟩ => ?_) fun a b ha hb => ?_).imp fun y ⟨a, b, ha, hb, ey⟩ => ?_) (by omega) fun num2 z' B' H' σ' hn2 _ n en => ?_
  rotate_right 1
  · exact q_ret at0 n en ((ty_andV (c2 := 0) (ty_eqI (i := twos num2) (j := twos num2) (optSome ((y_twosOpt (n := num2) (ty_var (x := num2) rfl)).to (if_neg hn2.1))) (y_twosNz (ty_var (x := num2) rfl) hn2)) fun _ => ty_eqI (i := twos (0 - num2)) (j := twos num2) (optSome ((k_twosOpt (n := 0 - num2) (ty_I0 (f := fun a b => a - b) ty_i (ty_var (x := num2) rfl))).to (if_neg (by have := hn2.1; omega)))) (y_twosNz (ty_var (x := num2) rfl) hn2)).to (y := true) (by rw [show twos (0 - num2) = twos num2 by rw [Int.zero_sub, twos_neg]]; simp)) (by omega) fun x v z' B' H' e n h => q x v z' B' H' e (n.le (by show _ ≤ 1000000; omega)) h
  all_goals first
    | (subst ea
       have hb : 0 ≤ b ∧ b < 1000 := hb
       exact wide_mul (a := 3) (b := 11) (by decide) (by omega) (by decide) (by decide) (by decide))
    | (have hb : 0 ≤ b ∧ b < 1000 := hb
       have ea : a = 2 := ea
       have ey : y = a * b := ey
       rw [ea] at ey
       exact ⟨by omega, by omega⟩)
    | (have hb : 0 ≤ b ∧ b < 2000 := hb
       have ea : a = 1 := ea
       have ey : y = a + b := ey
       exact ⟨by omega, by omega⟩)
    | (have ht : 0 ≤ t ∧ t < 86 := ht
       exact ⟨ht.1, by omega, by decide⟩)
    | (have ht : 0 ≤ t ∧ t < 86 := ht
       have ey : y = 2 ^ t.toNat := ey
       have h1 := Nat.pow_le_pow_right (n := 2) (by decide) (show t.toNat ≤ 86 by omega)
       have h2 := Nat.two_pow_pos t.toNat
       rw [ey, two_cast']
       exact ⟨by omega, Nat.lt_of_le_of_lt (show _ ≤ 2 ^ 86 by omega) (by decide)⟩)
    | (have ha : 1 ≤ a ∧ a ≤ 3000 := ha
       exact wide_mul (a := 13) (b := 100) (by omega) hb.2 (by decide) (by decide) (by decide))
    | (have ha : 1 ≤ a ∧ a ≤ 3000 := ha
       have hb : 1 ≤ b ∧ b.natAbs < 2 ^ 100 := hb
       have ey : y = a * b := ey
       have pos := Int.mul_pos (a := a) (b := b) (by omega) (by omega)
       refine ⟨by omega, ?_⟩
       rw [ey]
       exact Nat.lt_trans (wide_lt (a := 13) (b := 100) (by omega) hb.2) (by decide))
end
end K02

set_option maxHeartbeats 0
namespace K02
open PySem PySem.Spec PyProof.Rows L2 AP Evl


/-! ### the law's own draws -/
abbrev s_hash : Stmt := topS 32
abbrev s_random : Stmt := topS 33
abbrev s_cell : Stmt := topS 34
abbrev s_generator : Stmt := topS 35
theorem sc_hash : FnScope ["_law_seed", "_law_index", "_law_mixed"] ["_law_seed", "_law_index"] (defScope s_hash) :=
  ⟨rfl, rfl, rfl, by decide +kernel, rfl, by decide +kernel, by decide +kernel⟩
theorem sc_random : FnScope ["_law_generator_here", "_law_bound", "_law_drawn", "_law_turn"] ["_law_generator_here", "_law_bound"] (defScope s_random) :=
  ⟨rfl, rfl, rfl, by decide +kernel, rfl, by decide +kernel, by decide +kernel⟩
theorem sc_cell : FnScope ["_law_script", "_law_index"] ["_law_script", "_law_index"] (defScope s_cell) :=
  ⟨rfl, rfl, rfl, by decide +kernel, rfl, by decide +kernel, by decide +kernel⟩
theorem sc_generator : FnScope ["_law_script", "_law_index", "_law_seed"] ["_law_script", "_law_index"] (defScope s_generator) :=
  ⟨rfl, rfl, rfl, by decide +kernel, rfl, by decide +kernel, by decide +kernel⟩
/-- the built-in names that the draws use -/
structure TB (mg : Str → Option Value) : Prop where
  int : mg "int" = none
  len : mg "len" = none
  sum : mg "sum" = none
  max : mg "max" = none
  range : mg "range" = none
section
variable {P : Program} {w : World} {K : PySem.W.Frag} {mg : Str → Option Value} {base : Heap}
theorem ok_hash {f : Addr} {fd : FuncData} (F : Df K "_law_hash" "_law_hash" s_hash [] f fd) (T : TB mg) :
    FnOk P w K mg base CX0 1 f fd ["_law_seed", "_law_index"] spHash := by
  refine F.go sc_hash (fun vs H Q E h => ?_) (fun cdv A outer s H vs Q E hr h => ?_)
  · obtain ⟨_, _, rfl, _⟩ := h
    rfl
  · obtain ⟨s0, i, rfl, h0, h1, q⟩ := h
    refine ⟨_, pss_cons (ps_set (i := 2) sc_hash.nd rfl (.inl rfl) (pe_op op_mod (pe_callTy call_int1 (by rfl) T.int (by decide +kernel) (pa_cons (pe_op op_add (pe_op op_add (pe_op op_add (pe_op op_mul (pv 0) pe_int) (pe_op op_mul (pe_op op_mul pe_int (pv 1)) (pv 1))) (pe_op op_mul pe_int (pv 1))) pe_int) pa_nil)) pe_int))
     (pss_cons (ps_set (i := 2) sc_hash.nd rfl (.inl rfl) (pe_op op_mod (pe_callTy call_int1 (by rfl) T.int (by decide +kernel) (pa_cons (pe_op op_add (pe_op op_add (pe_op op_mul (pv 2) (pv 2)) (pe_op op_mul pe_int (pv 1))) pe_int) pa_nil)) pe_int))
     (pss_one (ps_ret (pe_op op_mod (pe_callTy call_int1 (by rfl) T.int (by decide +kernel) (pa_cons (pe_op op_mul (pv 2) pe_int) pa_nil)) pe_int)))), ?_⟩
    refine ⟨_, rfl, _, _, rfl, rfl, .inr ⟨by decide, by decide⟩, _, rfl, _, _, rfl, rfl, .inl ⟨by decide, by decide⟩, _, rfl, _, _, rfl, rfl, .inr ⟨by omega, by omega⟩,
      _, _, rfl, rfl, _, rfl, _, _, rfl, rfl, .inl ⟨by decide, by decide⟩, _, _, rfl, rfl, _, _, rfl, rfl, .inl ⟨_, rfl, _, _, rfl, rfl, (by show (0 : Int) < 2147483629; decide), ?_⟩⟩
    obtain ⟨m, em, m0, m1⟩ := rest_of (s0 * 1140671 + 27644437 * i * i + 131 * i + 19) (n := 2147483629) (by decide)
    dsimp only
    rw [em]
    refine ⟨_, rfl, _, rfl, _, _, rfl, rfl, .inl ⟨by omega, by omega⟩, _, rfl, _, _, rfl, rfl, .inl ⟨by decide, by decide⟩, _, _, rfl, rfl, _, _, rfl, rfl,
      .inl ⟨_, rfl, _, _, rfl, rfl, (by show (0 : Int) < 2147483587; decide), ?_⟩⟩
    obtain ⟨m', em', m0', m1'⟩ := rest_of (m * m + 62089 * i + 32416187) (n := 2147483587) (by decide)
    dsimp only
    rw [em']
    refine ⟨_, rfl, _, _, rfl, rfl, .inr ⟨by decide, by decide⟩, .inl ⟨_, rfl, _, _, rfl, rfl, (by show (0 : Int) < 2147483647; decide), ?_⟩⟩
    obtain ⟨n, en, n0, n1⟩ := rest_of (m' * 48271) (n := 2147483647) (by decide)
    dsimp only
    rw [en]
    exact q n n0 (by omega)
theorem ok_random {f fh : Addr} {fd fdh : FuncData} (F : Df K "_law_random" "_law_random" s_random [] f fd) (T : TB mg)
    (FH : Df K "_law_hash" "_law_hash" s_hash [] fh fdh) (mH : mg "_law_hash" = some (.ref fh)) (bH : Binds K fdh ["_law_seed", "_law_index"] []) :
    FnOk P w K mg base CX0 2 f fd ["_law_generator_here", "_law_bound"] spRandom := by
  have GH : FnOk P w K mg base CX0 1 fh fdh ["_law_seed", "_law_index"] spHash := ok_hash FH T
  refine F.go sc_random (fun vs H Q E h => ?_) (fun cdv A outer s H vs Q E hr h => ?_)
  · obtain ⟨_, _, _, _, _, rfl, _⟩ := h
    rfl
  · obtain ⟨g, b, x, y, z, rfl, ⟨hg, hx, hy, hz, hz'⟩, hb, hb', q⟩ := h
    refine ⟨_, pss_cons (ps_if (pt_cmpR op_gt (pe_ix ix_list (pv 0) pe_int (fun _ _ => rfl)) pe_int (nomark _)) (pss_cons (ps_set (i := 2) sc_random.nd rfl (.inl rfl) (pe_op op_mod (pe_callTy call_int1 (by rfl) T.int (by decide +kernel) (pa_cons (pe_ix ix_list (pv 0) pe_int (fun _ _ => rfl)) pa_nil)) (pv 1)))
       (pss_cons (ps_asg (pe_op op_fdivW (pe_ix ix_list (pv 0) pe_int (fun _ _ => rfl)) (pv 1)) (pg_sub (pv 0) pe_int set_list))
       (pss_one (ps_ret (pv 2))))) pss_nil)
     (pss_cons (ps_set (i := 2) sc_random.nd rfl (.inl rfl) pe_int)
     (pss_cons (ps_for PassesOwn.never rfl (pi_range1 (by rfl) T.range (pa_cons (pe_op op_add pe_int (pe_op op_fdivW (pe_bits (pv 1)) pe_int)) pa_nil)) (pg_name (i := 3) sc_random.nd rfl (.inl rfl))
      (pss_cons (ps_asg (pe_op op_add (pe_ix ix_list (pv 0) pe_int (fun _ _ => rfl)) pe_int) (pg_sub (pv 0) pe_int set_list))
       (pss_one (ps_set (i := 2) sc_random.nd rfl (.inl rfl) (pe_op op_add (pe_op op_mul (pv 2) pe_int) (pe_call GH hr (by rfl) mH FH.kp bH .nil pass0 (pa_cons (pe_ix ix_list (pv 0) pe_int (fun _ _ => rfl)) (pa_cons (pe_ix ix_list (pv 0) pe_int (fun _ _ => rfl)) pa_nil))))))))
     (pss_one (ps_ret (pe_op op_mod (pe_callTy call_int1 (by rfl) T.int (by decide +kernel) (pa_cons (pv 2) pa_nil)) (pv 1)))))), ?_⟩
    have sq : SqL K H g [.int x, .int y, .int z] := SqL.of hg
    refine ⟨_, rfl, _, _, 0, _, rfl, rfl, sq, atI_nat (j := 0) rfl, _, _, rfl, rfl, _, rfl, ite2 (fun c => ?_) (fun c => ?_)⟩
    · -- digits of the seed
      have x0 : 0 < x := of_decide_eq_true c
      obtain ⟨r, er, r0, r1⟩ := rest_of x (n := b) hb
      have d0 : 0 ≤ x / b := Int.ediv_nonneg hx (by omega)
      have d1 : x / b ≤ x := Int.ediv_le_self _ hx
      refine ⟨_, rfl, _, _, 0, _, rfl, rfl, sq, atI_nat (j := 0) rfl, .inl ⟨_, rfl, _, rfl, _, _, rfl, rfl, hb, ?_⟩⟩
      dsimp only
      rw [er]
      refine ⟨_, rfl, _, _, 0, _, rfl, rfl, sq, atI_nat (j := 0) rfl, _, rfl, _, _, rfl, rfl, wide_div hb hb' (by decide) (by decide),
        _, rfl, g, _, 0, 0, rfl, rfl, hg, rfl, _, rfl, ?_⟩
      exact q r (x / b) z _ r0 r1 ⟨upd_same, d0, hy, hz, by omega⟩ (fun a ha => upd_ne ha) (by omega)
    · -- a hash for each thirty bits
      have nb : (Builtin.Int.intBits b : Int) ≤ 8999 := bits_small hb hb'
      refine ⟨_, rfl, _, rfl, _, _, rfl, rfl, wide_div (b := 9) (by decide) (by decide) (by decide) (by decide), _, _, rfl, rfl, _, rfl, by omega, by omega, ?_⟩
      have nt : (1 + (Builtin.Int.intBits b : Int) / 30).toNat ≤ 300 := by omega
      refine for_range (lo := 0) (n := (1 + (Builtin.Int.intBits b : Int) / 30).toNat) (fun j σ' H' => ∃ (dr z' : Int) (t : Option V), σ' = [some (.ref g), some (.int b), some (.int dr), t] ∧ 0 ≤ dr ∧
          (H' g = some (.lst [.int x, .int y, .int z']) ∧ z ≤ z' ∧ z' ≤ z + j) ∧ ∀ a, a ≠ g → H' a = H a)
        ⟨0, z, none, rfl, by decide, ⟨hg, by omega, by omega⟩, fun _ _ => rfl⟩ (fun j σ' H' hj hp => ?_) (fun σ' H' hp => ?_)
      · obtain ⟨dr, z', t, rfl, hdr, ⟨hg', hz1, hz2⟩, oth⟩ := hp
        have sq' : SqL K H' g [.int x, .int y, .int z'] := SqL.of hg'
        refine ⟨_, rfl, _, _, 2, _, rfl, rfl, sq', atI_nat (j := 2) rfl, _, _, rfl, rfl, _, rfl, g, _, 2, 2, rfl, rfl, hg', rfl, ?_⟩
        have hg2 : (upd H' g (.lst ([V.int x, V.int y, V.int z'].set 2 (V.int (z' + 1))))) g = some (.lst [.int x, .int y, .int (z' + 1)]) := upd_same
        have sq2 := SqL.of (K := K) hg2
        refine ⟨_, rfl, _, _, rfl, rfl, .inr ⟨by decide, by decide⟩, _, rfl, _, _, 1, _, rfl, rfl, sq2, atI_nat (j := 1) rfl, _, rfl, _, _, 2, _, rfl, rfl, sq2, atI_nat (j := 2) rfl,
          y, z' + 1, rfl, by omega, by omega, fun n n0 n1 => ⟨_, _, rfl, rfl, dr * 2147483587 + n, z' + 1, _, rfl, by omega, ⟨hg2, by omega, by omega⟩, fun a ha => ?_⟩⟩
        exact (upd_ne ha).trans (oth a ha)
      · obtain ⟨dr, z', t, rfl, hdr, ⟨hg', hz1, hz2⟩, oth⟩ := hp
        obtain ⟨r, er, r0, r1⟩ := rest_of dr (n := b) hb
        refine ⟨_, rfl, .inl ⟨_, rfl, _, rfl, _, _, rfl, rfl, hb, ?_⟩⟩
        dsimp only
        rw [er]
        exact q r x z' H' r0 r1 ⟨hg', hx, hy, by omega, by omega⟩ oth (by omega)
theorem ok_cell {f : Addr} {fd : FuncData} (F : Df K "_law_cell" "_law_cell" s_cell [] f fd) (T : TB mg) :
    FnOk P w K mg base CX0 1 f fd ["_law_script", "_law_index"] (spCellA K) := by
  refine F.go sc_cell (fun vs H Q E h => ?_) (fun cdv A outer s H vs Q E hr h => ?_)
  · obtain ⟨_, _, _, rfl, _⟩ := h
    rfl
  · obtain ⟨a, ns, i, rfl, hS, q⟩ := h
    refine ⟨_, pss_cons (ps_if (pt_cmpR op_lt (pv 1) (pe_callB call_len_seq (by rfl) T.len (by decide +kernel) (pa_cons (pv 0) pa_nil)) (nomark _)) (pss_one (ps_ret (pe_ix ix_list (pv 0) (pv 1) (fun _ _ => rfl)))) pss_nil)
     (pss_one (ps_ret (pe_op op_mod (pe_callB (cr_sum rfl) (by rfl) T.sum (by decide +kernel) (pa_cons (pe_slice sl_list (pv 0) po_none (po_some pe_int)) pa_nil)) pe_int))), ?_⟩
    refine ⟨_, rfl, _, rfl, _, _, rfl, .inl hS, _, _, rfl, rfl, _, rfl, ite2 (fun c => ?_) (fun c => ?_)⟩
    · have lt : i < ns.length := by
        have c' : (i : Int) < ((ns.map V.int).length : Nat) := of_decide_eq_true c
        rw [List.length_map] at c'
        omega
      have at_ : (ns.map V.int)[i]? = some (.int ns[i]) := by
        rw [List.getElem?_map, List.getElem?_eq_getElem lt] <;> rfl
      exact ⟨_, rfl, _, rfl, _, _, _, _, rfl, rfl, hS, atI_nat at_, q _ _ (Evl.Ex.refl H)⟩
    · refine ⟨_, rfl, _, rfl, a, _, rfl, hS, fun p np => ?_⟩
      obtain ⟨ms, em⟩ := cut_ints ns none (some 1)
      refine ⟨p, ms, rfl, SqL.of (by rw [← em]; exact upd_same), _, _, rfl, rfl, (by show (0 : Int) < 1000003; decide), ?_⟩
      exact q _ _ (Evl.Ex.new np)
theorem ok_generator {f fc : Addr} {fd fdc : FuncData} (F : Df K "_law_generator" "_law_generator" s_generator [] f fd) (T : TB mg)
    (FC : Df K "_law_cell" "_law_cell" s_cell [] fc fdc) (mC : mg "_law_cell" = some (.ref fc)) (bC : Binds K fdc ["_law_script", "_law_index"] []) :
    FnOk P w K mg base CX0 2 f fd ["_law_script", "_law_index"] (spGenerator K) := by
  have GC : FnOk P w K mg base CX0 1 fc fdc ["_law_script", "_law_index"] (spCellA K) := ok_cell FC T
  refine F.go sc_generator (fun vs H Q E h => ?_) (fun cdv A outer s H vs Q E hr h => ?_)
  · obtain ⟨_, _, _, rfl, _⟩ := h
    rfl
  · obtain ⟨a, ns, i, rfl, hS, hi, q⟩ := h
    refine ⟨_, pss_cons (ps_set (i := 2) sc_generator.nd rfl (.inl rfl) (pe_call GC hr (by rfl) mC FC.kp bC .nil pass0 (pa_cons (pv 0) (pa_cons (pv 1) pa_nil))))
     (pss_one (ps_ret (pe_lst (pa_cons (pe_op op_mod (pe_callTy call_int1 (by rfl) T.int (by decide +kernel) (pa_cons (pe_callB (call_max2 rfl) (by rfl) T.max (by decide +kernel) (pa_cons (pe_op op_sub (pv 2) (pe_op op_powW pe_int pe_int)) (pa_cons pe_int pa_nil))) pa_nil)) (pe_op op_powW (pe_op op_powW pe_int pe_int) pe_int)) (pa_cons (pe_op op_mod (pe_callTy call_int1 (by rfl) T.int (by decide +kernel) (pa_cons (pv 2) pa_nil)) pe_int) (pa_cons (pe_op op_mul pe_int (pv 1)) pa_nil)))))), ?_⟩
    refine ⟨_, rfl, _, rfl, a, ns, i, rfl, hS, fun c H1 e1 => ?_⟩
    refine ⟨_, rfl, _, _, rfl, rfl, pow_a, _, _, rfl, rfl, _, _, rfl, .inl ⟨_, rfl, _, _, rfl, rfl, pow_b, _, _, rfl, rfl, pow_c, _, _, rfl, rfl, pow_d,
      _, rfl, .inl ⟨_, rfl, _, _, rfl, rfl, (by show (0 : Int) < 2147483647; decide), _, rfl, _, _, rfl, rfl, .inl ⟨by decide, by decide⟩, by show 3 ≤ sizeLine; decide, fun p np => ?_⟩⟩⟩
    have y1 : c % 2147483647 < 2147483647 := Int.emod_lt_of_pos _ (by decide)
    exact q p _ (Evl.fresh_back e1 np) (e1.trans (Evl.Ex.new np)) ⟨_, c % 2147483647, 1000 * i, upd_same, Int.emod_nonneg _ (by have := pow_d; omega),
      ⟨Int.emod_nonneg _ (by decide), by omega⟩, by omega, by omega⟩
end


theorem w64 : wOk 64 := by unfold wOk; decide
theorem w4 : wOk 4 := by unfold wOk; decide
theorem p05 : Places 64 [0, 5] := ⟨by decide +kernel, by decide⟩

section
variable {P : Program} {w : World} {K : PySem.W.Frag} {mg : Str → Option Value} {base : Heap}
abbrev slaw : Stmt := topS 42
theorem sclaw : FnScope ["_law_script", "_law_index"] ["_law_script"] (defScope slaw) := ⟨rfl, rfl, rfl, by decide +kernel, rfl, by decide +kernel, by decide +kernel⟩
theorem ok_law {f : Addr} {fd : FuncData} (F : Df K "law" "law" slaw [] f fd) (T : TN mg) (F_law_generator : Fo P w K mg base "_law_generator" 2 ["_law_script", "_law_index"] (spGenerator K)) (F_law_right : FoG P w K mg base "_law_right" 8 ["_law_generator_here"] cRight.sp) (Ftwos_in : Fo P w K mg base "twos_in" 3 ["number"] cTwosOpt.sp) (Fwords_at : Fo P w K mg base "words_at" 7 ["width", "coefficients", "places"] cWordsOf.sp) (Fword_at : Fo P w K mg base "word_at" 5 ["width", "coefficients", "number"] cWorth.sp) :
    FnG P w K mg base CX0 9 f fd ["_law_script"] (spLaw K) := by
  refine F.goG sclaw (fun vs H Q E h => ?_) (fun cdv A outer s H vs Q E ng hr h => ?_)
  · obtain ⟨_, _, rfl, _⟩ := h
    rfl
  · obtain ⟨a, ns, rfl, hS, q⟩ := h
    refine ⟨_, (pss_cons (ps_for PassesOwn.never rfl (pi_range1 (by rfl) T.b_range (pa_cons pe_int pa_nil)) (pg_name (i := 1) sclaw.nd rfl (.inl rfl))
      (pss_one (ps_if (pt_not (pt_val (pe_fog F_law_right ng (hr.mono (by decide)) (by rfl) (pa_cons (pe_fo F_law_generator (hr.mono (by decide)) (by rfl) (pa_cons (pv 0) (pa_cons (pv 1) pa_nil))) pa_nil)))) (pss_one (ps_ret pe_bl)) pss_nil)))
     (pss_one (ps_ret (pe_and (pe_cmpR op_isN (pe_fo Ftwos_in (hr.mono (by decide)) (by rfl) (pa_cons pe_int pa_nil)) pe_non (nomark _)) (pe_and (pe_cmpR (r := rEqD K) (op_eqD hr.units) (pe_fo Fwords_at (hr.mono (by decide)) (by rfl) (pa_cons pe_int (pa_cons (pe_lst pa_nil) (pa_cons (pe_lst (pa_cons pe_int (pa_cons pe_int pa_nil))) pa_nil)))) (pe_lst (pa_cons pe_int (pa_cons pe_int pa_nil))) (nomark _)) (pe_one (pe_cmpR op_eq (pe_fo Fword_at (hr.mono (by decide)) (by rfl) (pa_cons pe_int (pa_cons (pe_lst (pa_cons pe_int (pa_cons pe_int pa_nil))) (pa_cons (pe_op op_sub pe_int pe_int) pa_nil)))) pe_int (nomark _)))))))), ?_⟩
    have at0 : At none 0 H H := at_none
    have n0 := Nx.refl at0
    have en := slo_law (N := ["_law_script", "_law_index"]) hS
    have hz : (0 : Int) + 0 ≤ 2 ^ 50 := by decide
    have en : Slo H (L2.start ["_law_script", "_law_index"] [.ref a]) [some (ScP K a ns), none] := en
    refine q_forS at0 n0 en (cb := 0) (ti_rng1 (ta_cons ty_i ta_nil) (by decide)) hz (fun _ Γ _ _ => ∃ o1 : Option VP, Γ = [some (ScP K a ns), o1]) (fun _ _ _ _ _ => ⟨none, rfl⟩) (fun _ _ _ _ _ h _ => h)
      (fun m em Bs k Γ' z' B' H' σ' hi inv eb n en => ?_) fun m em Γ' z' B' H' σ' inv n en => ?_
    · obtain ⟨o1, rfl⟩ := inv
      subst em
      have hi : k < 3 := hi
      exact s_not at0 n en ((tt_notD (tt_B (ty_rightgen (C := cRight) (a := a) (ns := ns) (i := k) (k := 0) (l := 1) (fun _ => rfl) (fun _ => rfl) (fun _ => by show (1000000 : Nat) ≤ 2 ^ 49; decide) (fun _ _ h => h) rfl rfl (by omega)))).to rfl) (by simp) fun z' B' H' s2 n en => ⟨_, z', B', ⟨_, rfl⟩, eb.trans s2.up, n.le (by simp), en⟩
    obtain ⟨o1, rfl⟩ := inv
    refine q_ret at0 n en ((ty_andV (c2 := 0) (ty_isN (b := true) (x := (none : Option Int)) ((y_twosOpt ty_i).to (if_pos rfl)) fun v B h => decide_eq_true h) fun _ => ty_andV (c2 := 0)
      (ty_eqD (y_wordsOf ty_i (ty_nil (α := Int)) (ty_lit (xs := ([0, 5] : List Int)) (tl_cons ty_i (tl_cons ty_i tl_nil)) (by simp)) ⟨w64, ⟨by decide, by simp⟩, p05⟩).datInts.datLst (ty_lit (xs := ([0, 0] : List Int)) (tl_cons ty_i (tl_cons ty_i tl_nil)) (by simp)).datInts.datLst (rp_ints (by decide +kernel)) (rp_ints (by decide)) (by decide) (by decide)) fun _ =>
      ty_eqI (y_worth ty_i (ty_lit (xs := ([0, 1] : List Int)) (tl_cons ty_i (tl_cons ty_i tl_nil)) (by simp)) (ty_I0 (f := fun a b => a - b) ty_i ty_i) ⟨w4, ⟨by decide, by decide +kernel⟩, by decide +kernel⟩) ty_i).to (y := true) (by decide +kernel)) (by simp) fun x v z' B' H' e n h => ?_
    subst e
    cases (show v = .bl true from h)
    exact q H'
end
/-! ### the head -/
def fn : List He.DefD := [
  ⟨("is_whole", none), "is_whole", "is_whole", defArgs sis_whole, defBody sis_whole, defScope sis_whole, [], []⟩,
  ⟨("twos_of", none), "twos_of", "twos_of", defArgs stwos_of, defBody stwos_of, defScope stwos_of, [], []⟩,
  ⟨("climbs", none), "climbs", "climbs", defArgs sclimbs, defBody sclimbs, defScope sclimbs, [], []⟩,
  ⟨("worth_at", none), "worth_at", "worth_at", defArgs sworth_at, defBody sworth_at, defScope sworth_at, [], []⟩,
  ⟨("_law_hash", none), "_law_hash", "_law_hash", defArgs s_hash, defBody s_hash, defScope s_hash, [], []⟩,
  ⟨("_law_cell", none), "_law_cell", "_law_cell", defArgs s_cell, defBody s_cell, defScope s_cell, [], []⟩,
  ⟨("_law_power", none), "_law_power", "_law_power", defArgs s_law_power, defBody s_law_power, defScope s_law_power, [], []⟩,
  ⟨("_law_twos", none), "_law_twos", "_law_twos", defArgs s_law_twos, defBody s_law_twos, defScope s_law_twos, [], []⟩,
  ⟨("is_between", none), "is_between", "is_between", defArgs sis_between, defBody sis_between, defScope sis_between, [], []⟩,
  ⟨("are_wholes", none), "are_wholes", "are_wholes", defArgs sare_wholes, defBody sare_wholes, defScope sare_wholes, [], []⟩,
  ⟨("need_whole", none), "need_whole", "need_whole", defArgs sneed_whole, defBody sneed_whole, defScope sneed_whole, [], []⟩,
  ⟨("_law_random", none), "_law_random", "_law_random", defArgs s_random, defBody s_random, defScope s_random, [], []⟩,
  ⟨("_law_generator", none), "_law_generator", "_law_generator", defArgs s_generator, defBody s_generator, defScope s_generator, [], []⟩,
  ⟨("_law_word", none), "_law_word", "_law_word", defArgs s_law_word, defBody s_law_word, defScope s_law_word, [], []⟩,
  ⟨("fits_width", none), "fits_width", "fits_width", defArgs sfits_width, defBody sfits_width, defScope sfits_width, [], []⟩,
  ⟨("fits_word", none), "fits_word", "fits_word", defArgs sfits_word, defBody sfits_word, defScope sfits_word, [], []⟩,
  ⟨("twos_in", none), "twos_in", "twos_in", defArgs stwos_in, defBody stwos_in, defScope stwos_in, [], []⟩,
  ⟨("need_coefficients", none), "need_coefficients", "need_coefficients", defArgs sneed_coefficients, defBody sneed_coefficients, defScope sneed_coefficients, [], []⟩,
  ⟨("_law_places", none), "_law_places", "_law_places", defArgs s_law_places, defBody s_law_places, defScope s_law_places, [], []⟩,
  ⟨("_law_coefficients", none), "_law_coefficients", "_law_coefficients", defArgs s_law_coefficients, defBody s_law_coefficients, defScope s_law_coefficients, [], []⟩,
  ⟨("are_words", none), "are_words", "are_words", defArgs sare_words, defBody sare_words, defScope sare_words, [], []⟩,
  ⟨("need_width", none), "need_width", "need_width", defArgs sneed_width, defBody sneed_width, defScope sneed_width, [], []⟩,
  ⟨("are_places", none), "are_places", "are_places", defArgs sare_places, defBody sare_places, defScope sare_places, [], []⟩,
  ⟨("are_words_at", none), "are_words_at", "are_words_at", defArgs sare_words_at, defBody sare_words_at, defScope sare_words_at, [], []⟩,
  ⟨("word_at", none), "word_at", "word_at", defArgs sword_at, defBody sword_at, defScope sword_at, [], []⟩,
  ⟨("need_places", none), "need_places", "need_places", defArgs sneed_places, defBody sneed_places, defScope sneed_places, [], []⟩,
  ⟨("need_words", none), "need_words", "need_words", defArgs sneed_words, defBody sneed_words, defScope sneed_words, [], []⟩,
  ⟨("words_at", none), "words_at", "words_at", defArgs swords_at, defBody swords_at, defScope swords_at, [], []⟩,
  ⟨("parting_places", none), "parting_places", "parting_places", defArgs sparting_places, defBody sparting_places, defScope sparting_places, [], []⟩,
  ⟨("_law_right", none), "_law_right", "_law_right", defArgs s_law_right, defBody s_law_right, defScope s_law_right, [], []⟩,
  ⟨("law", none), "law", "law", defArgs slaw, defBody slaw, defScope slaw, [], []⟩]
def fa : List He.Fa := [.glo "is_whole", .glo "twos_of", .glo "climbs", .glo "worth_at", .glo "_law_hash", .glo "_law_cell", .glo "_law_power", .glo "_law_twos", .glo "is_between", .glo "are_wholes", .glo "need_whole", .glo "_law_random", .glo "_law_generator", .glo "_law_word", .glo "fits_width", .glo "fits_word", .glo "twos_in", .glo "need_coefficients", .glo "_law_places", .glo "_law_coefficients", .glo "are_words", .glo "need_width", .glo "are_places", .glo "are_words_at", .glo "word_at", .glo "need_places", .glo "need_words", .glo "words_at", .glo "parting_places", .glo "_law_right", .glo "law", .free "int", .free "bool", .free "list", .free "tuple", .free "dict", .free "isinstance", .free "all", .free "any", .free "len", .free "range", .free "sum", .free "max", .free "min", .free "sorted", .free "repr", .free "enumerate", .free "zip", .free "reversed", .free "abs", .int "WIDEST" 64]
abbrev R : PySem.W.OpenRow := PySem.W.OpenLaw.row PySem.Challenge.rw_anyplaces_k02_whole_words_of_polynomials
abbrev hk : PySem.W.Hook := He.hookD 4 fa fn
def ob (s : PySem.W.SharedT) : He.AlD := He.obsDG 4 fa fn (HandSHeadRun.getT s)
theorem ob_eq (s : PySem.W.SharedT) : ob s = hk.obs s.abs := He.obsDG_eq (HandSHeadRun.getT_eq s)
abbrev loose : List Str := "CodeError" :: "InvalidNumber" :: "InvalidWidth" :: "InvalidWords" :: "InvalidPlaces" :: "InvalidItems" :: "is_whole" :: "is_between" :: "fits_width" :: "fits_word" :: "twos_of" :: "are_wholes" :: "are_words" :: "climbs" :: "are_places" :: "are_words_at" :: "need_width" :: "need_places" :: "need_whole" :: "need_words" :: "twos_in" :: "need_coefficients" :: "worth_at" :: "word_at" :: "words_at" :: "parting_places" :: "_law_hash" :: "_law_random" :: "_law_cell" :: "_law_generator" :: "_law_power" :: "_law_places" :: "_law_twos" :: "_law_word" :: "_law_coefficients" :: "_law_right" :: "WIDEST" :: []
theorem run (w : World) : HandSHeadRun.RunEq R (PySem.W.view R.prog [42]) hk ob 8000 loose w := by
  intro os
  kernel_rfl
theorem facts {P : Program} {w : World} {K : PySem.W.Frag} {h : Heap} {mg : Str → Option Value} {f : Addr} (X : K.In h) (G : h.Ns mainGlobals mg) (hfa : mg ("law" : Str) = some (.ref f)) (c : He.SaysD fa fn K) :
    ∃ fd : FuncData, (∀ (s : Shared) (v : Value), BindsTo s fd ⟨[v], []⟩ [("_law_script", v)]) ∧ ∀ base : Heap, K.In base → base.Ns mainGlobals mg → FnG P w K mg base CX0 9 f fd ["_law_script"] (spLaw K) := by
  obtain ⟨d0, Z0⟩ := c.def_ 0 (d := _) rfl
  obtain ⟨d1, Z1⟩ := c.def_ 1 (d := _) rfl
  obtain ⟨d2, Z2⟩ := c.def_ 2 (d := _) rfl
  obtain ⟨d3, Z3⟩ := c.def_ 3 (d := _) rfl
  obtain ⟨d4, Z4⟩ := c.def_ 4 (d := _) rfl
  obtain ⟨d5, Z5⟩ := c.def_ 5 (d := _) rfl
  obtain ⟨d6, Z6⟩ := c.def_ 6 (d := _) rfl
  obtain ⟨d7, Z7⟩ := c.def_ 7 (d := _) rfl
  obtain ⟨d8, Z8⟩ := c.def_ 8 (d := _) rfl
  obtain ⟨d9, Z9⟩ := c.def_ 9 (d := _) rfl
  obtain ⟨d10, Z10⟩ := c.def_ 10 (d := _) rfl
  obtain ⟨d11, Z11⟩ := c.def_ 11 (d := _) rfl
  obtain ⟨d12, Z12⟩ := c.def_ 12 (d := _) rfl
  obtain ⟨d13, Z13⟩ := c.def_ 13 (d := _) rfl
  obtain ⟨d14, Z14⟩ := c.def_ 14 (d := _) rfl
  obtain ⟨d15, Z15⟩ := c.def_ 15 (d := _) rfl
  obtain ⟨d16, Z16⟩ := c.def_ 16 (d := _) rfl
  obtain ⟨d17, Z17⟩ := c.def_ 17 (d := _) rfl
  obtain ⟨d18, Z18⟩ := c.def_ 18 (d := _) rfl
  obtain ⟨d19, Z19⟩ := c.def_ 19 (d := _) rfl
  obtain ⟨d20, Z20⟩ := c.def_ 20 (d := _) rfl
  obtain ⟨d21, Z21⟩ := c.def_ 21 (d := _) rfl
  obtain ⟨d22, Z22⟩ := c.def_ 22 (d := _) rfl
  obtain ⟨d23, Z23⟩ := c.def_ 23 (d := _) rfl
  obtain ⟨d24, Z24⟩ := c.def_ 24 (d := _) rfl
  obtain ⟨d25, Z25⟩ := c.def_ 25 (d := _) rfl
  obtain ⟨d26, Z26⟩ := c.def_ 26 (d := _) rfl
  obtain ⟨d27, Z27⟩ := c.def_ 27 (d := _) rfl
  obtain ⟨d28, Z28⟩ := c.def_ 28 (d := _) rfl
  obtain ⟨d29, Z29⟩ := c.def_ 29 (d := _) rfl
  obtain ⟨d30, Z30⟩ := c.def_ 30 (d := _) rfl
  have glo : ∀ (i : Nat) (y : Str), fa[i]? = some (.glo y) → mg y = some (.ref (He.ga K y)) := fun i y e => He.glo_ok X G (c.fact i e)
  have free : ∀ (i : Nat) (y : Str), fa[i]? = some (.free y) → mg y = none := fun i y e => He.free_ok X G (c.fact i e)
  have T : TN mg := ⟨free 31 _ rfl, free 32 _ rfl, free 33 _ rfl, free 34 _ rfl, free 35 _ rfl, free 36 _ rfl, free 37 _ rfl, free 38 _ rfl, free 39 _ rfl, free 40 _ rfl, free 41 _ rfl, free 42 _ rfl, free 43 _ rfl, free 44 _ rfl, free 45 _ rfl, free 46 _ rfl, free 47 _ rfl, free 48 _ rfl, free 49 _ rfl⟩
  have IWIDEST := He.int_ok X G (x := "WIDEST") (i := 64) (c.fact 50 rfl)
  have e := hfa.symm.trans (glo 30 "law" rfl)
  cases e
  have bl := FunD.bindsA (ps := ["_law_script"]) Z30 fun _ _ _ _ _ _ us hl => match us, hl with | [_], _ => rfl
  refine ⟨d30, fun s v => bl s [v] rfl, fun base _ _ => ?_⟩
  have Fis_whole : Fo P w K mg base "is_whole" 1 ["value"] cWhole.sp := .mk' (qual := "is_whole") (st := sis_whole) Z0 (glo 0 _ rfl) (ok_is_whole Z0 T) (fun _ _ _ _ _ _ us hl => match us, hl with | [_], _ => rfl) (fun _ _ _ _ _ _ us hl => match us, hl with | [_], _ => rfl)
  have Ftwos_of : Fo P w K mg base "twos_of" 1 ["number"] cTwosIn.sp := .mk' (qual := "twos_of") (st := stwos_of) Z1 (glo 1 _ rfl) (ok_twos_of Z1 T) (fun _ _ _ _ _ _ us hl => match us, hl with | [_], _ => rfl) (fun _ _ _ _ _ _ us hl => match us, hl with | [_], _ => rfl)
  have Fclimbs : Fo P w K mg base "climbs" 1 ["numbers"] cClimbs.sp := .mk' (qual := "climbs") (st := sclimbs) Z2 (glo 2 _ rfl) (ok_climbs Z2 T) (fun _ _ _ _ _ _ us hl => match us, hl with | [_], _ => rfl) (fun _ _ _ _ _ _ us hl => match us, hl with | [_], _ => rfl)
  have Fworth_at : Fo P w K mg base "worth_at" 1 ["width", "coefficients", "number"] cWorth.sp := .mk' (qual := "worth_at") (st := sworth_at) Z3 (glo 3 _ rfl) (ok_worth_at Z3 T) (fun _ _ _ _ _ _ us hl => match us, hl with | [_, _, _], _ => rfl) (fun _ _ _ _ _ _ us hl => match us, hl with | [_, _, _], _ => rfl)
  have F_law_hash : Fo P w K mg base "_law_hash" 1 ["_law_seed", "_law_index"] spHash := .mk' (qual := "_law_hash") (st := s_hash) Z4 (glo 4 _ rfl) (ok_hash Z4 ⟨T.b_int, T.b_len, T.b_sum, T.b_max, T.b_range⟩) (fun _ _ _ _ _ _ us hl => match us, hl with | [_, _], _ => rfl) (fun _ _ _ _ _ _ us hl => match us, hl with | [_, _], _ => rfl)
  have F_law_cell : Fo P w K mg base "_law_cell" 1 ["_law_script", "_law_index"] (spCellA K) := .mk' (qual := "_law_cell") (st := s_cell) Z5 (glo 5 _ rfl) (ok_cell Z5 ⟨T.b_int, T.b_len, T.b_sum, T.b_max, T.b_range⟩) (fun _ _ _ _ _ _ us hl => match us, hl with | [_, _], _ => rfl) (fun _ _ _ _ _ _ us hl => match us, hl with | [_, _], _ => rfl)
  have F_law_power : Fo P w K mg base "_law_power" 1 ["_law_number", "_law_times"] cPower.sp := .mk' (qual := "_law_power") (st := s_law_power) Z6 (glo 6 _ rfl) (ok_law_power Z6 T) (fun _ _ _ _ _ _ us hl => match us, hl with | [_, _], _ => rfl) (fun _ _ _ _ _ _ us hl => match us, hl with | [_, _], _ => rfl)
  have F_law_twos : Fo P w K mg base "_law_twos" 1 ["_law_number"] cTwosNz.sp := .mk' (qual := "_law_twos") (st := s_law_twos) Z7 (glo 7 _ rfl) (ok_law_twos Z7 T) (fun _ _ _ _ _ _ us hl => match us, hl with | [_], _ => rfl) (fun _ _ _ _ _ _ us hl => match us, hl with | [_], _ => rfl)
  have Fis_between : Fo P w K mg base "is_between" 2 ["value", "low", "high"] cBetween.sp := .mk' (qual := "is_between") (st := sis_between) Z8 (glo 8 _ rfl) (ok_is_between Z8 T Fis_whole) (fun _ _ _ _ _ _ us hl => match us, hl with | [_, _, _], _ => rfl) (fun _ _ _ _ _ _ us hl => match us, hl with | [_, _, _], _ => rfl)
  have Fare_wholes : Fo P w K mg base "are_wholes" 2 ["value"] cAreWholes.sp := .mk' (qual := "are_wholes") (st := sare_wholes) Z9 (glo 9 _ rfl) (ok_are_wholes Z9 T Fis_whole) (fun _ _ _ _ _ _ us hl => match us, hl with | [_], _ => rfl) (fun _ _ _ _ _ _ us hl => match us, hl with | [_], _ => rfl)
  have Fneed_whole : Fo P w K mg base "need_whole" 2 ["number"] cNeedWhole.sp := .mk' (qual := "need_whole") (st := sneed_whole) Z10 (glo 10 _ rfl) (ok_need_whole Z10 T Fis_whole) (fun _ _ _ _ _ _ us hl => match us, hl with | [_], _ => rfl) (fun _ _ _ _ _ _ us hl => match us, hl with | [_], _ => rfl)
  have F_law_random : Fo P w K mg base "_law_random" 2 ["_law_generator_here", "_law_bound"] cRandom.sp := .mk' (qual := "_law_random") (st := s_random) Z11 (glo 11 _ rfl) (random_con (ok_random Z11 ⟨T.b_int, T.b_len, T.b_sum, T.b_max, T.b_range⟩ Z4 (glo 4 _ rfl) (FunD.bindsN Z4 fun _ _ _ _ _ _ us hl => match us, hl with | [_, _], _ => rfl))) (fun _ _ _ _ _ _ us hl => match us, hl with | [_, _], _ => rfl) (fun _ _ _ _ _ _ us hl => match us, hl with | [_, _], _ => rfl)
  have F_law_generator : Fo P w K mg base "_law_generator" 2 ["_law_script", "_law_index"] (spGenerator K) := .mk' (qual := "_law_generator") (st := s_generator) Z12 (glo 12 _ rfl) (ok_generator Z12 ⟨T.b_int, T.b_len, T.b_sum, T.b_max, T.b_range⟩ Z5 (glo 5 _ rfl) (FunD.bindsN Z5 fun _ _ _ _ _ _ us hl => match us, hl with | [_, _], _ => rfl)) (fun _ _ _ _ _ _ us hl => match us, hl with | [_, _], _ => rfl) (fun _ _ _ _ _ _ us hl => match us, hl with | [_, _], _ => rfl)
  have F_law_word : Fo P w K mg base "_law_word" 2 ["_law_width", "_law_coefficients_here", "_law_number"] cLWord.sp := .mk' (qual := "_law_word") (st := s_law_word) Z13 (glo 13 _ rfl) (ok_law_word Z13 T F_law_power) (fun _ _ _ _ _ _ us hl => match us, hl with | [_, _, _], _ => rfl) (fun _ _ _ _ _ _ us hl => match us, hl with | [_, _, _], _ => rfl)
  have Ffits_width : Fo P w K mg base "fits_width" 3 ["value"] cFitsWidth.sp := .mk' (qual := "fits_width") (st := sfits_width) Z14 (glo 14 _ rfl) (ok_fits_width Z14 T IWIDEST Fis_between) (fun _ _ _ _ _ _ us hl => match us, hl with | [_], _ => rfl) (fun _ _ _ _ _ _ us hl => match us, hl with | [_], _ => rfl)
  have Ffits_word : Fo P w K mg base "fits_word" 3 ["width", "value"] cFitsWord.sp := .mk' (qual := "fits_word") (st := sfits_word) Z15 (glo 15 _ rfl) (ok_fits_word Z15 T Fis_between) (fun _ _ _ _ _ _ us hl => match us, hl with | [_, _], _ => rfl) (fun _ _ _ _ _ _ us hl => match us, hl with | [_, _], _ => rfl)
  have Ftwos_in : Fo P w K mg base "twos_in" 3 ["number"] cTwosOpt.sp := .mk' (qual := "twos_in") (st := stwos_in) Z16 (glo 16 _ rfl) (ok_twos_in Z16 T Fneed_whole Ftwos_of) (fun _ _ _ _ _ _ us hl => match us, hl with | [_], _ => rfl) (fun _ _ _ _ _ _ us hl => match us, hl with | [_], _ => rfl)
  have Fneed_coefficients : Fo P w K mg base "need_coefficients" 3 ["coefficients"] cNeedCoeffs.sp := .mk' (qual := "need_coefficients") (st := sneed_coefficients) Z17 (glo 17 _ rfl) (ok_need_coefficients Z17 T Fare_wholes) (fun _ _ _ _ _ _ us hl => match us, hl with | [_], _ => rfl) (fun _ _ _ _ _ _ us hl => match us, hl with | [_], _ => rfl)
  have F_law_places : Fo P w K mg base "_law_places" 3 ["_law_generator_here", "_law_width", "_law_most"] cLPlaces.sp := .mk' (qual := "_law_places") (st := s_law_places) Z18 (glo 18 _ rfl) (ok_law_places Z18 T F_law_random F_law_power) (fun _ _ _ _ _ _ us hl => match us, hl with | [_, _, _], _ => rfl) (fun _ _ _ _ _ _ us hl => match us, hl with | [_, _, _], _ => rfl)
  have F_law_coefficients : Fo P w K mg base "_law_coefficients" 3 ["_law_generator_here"] cCoef.sp := .mk' (qual := "_law_coefficients") (st := s_law_coefficients) Z19 (glo 19 _ rfl) (ok_law_coefficients Z19 T F_law_random) (fun _ _ _ _ _ _ us hl => match us, hl with | [_], _ => rfl) (fun _ _ _ _ _ _ us hl => match us, hl with | [_], _ => rfl)
  have Fare_words : Fo P w K mg base "are_words" 4 ["width", "value"] cAreWords.sp := .mk' (qual := "are_words") (st := sare_words) Z20 (glo 20 _ rfl) (ok_are_words Z20 T Ffits_word) (fun _ _ _ _ _ _ us hl => match us, hl with | [_, _], _ => rfl) (fun _ _ _ _ _ _ us hl => match us, hl with | [_, _], _ => rfl)
  have Fneed_width : Fo P w K mg base "need_width" 4 ["width"] cNeedWidth.sp := .mk' (qual := "need_width") (st := sneed_width) Z21 (glo 21 _ rfl) (ok_need_width Z21 T Ffits_width) (fun _ _ _ _ _ _ us hl => match us, hl with | [_], _ => rfl) (fun _ _ _ _ _ _ us hl => match us, hl with | [_], _ => rfl)
  have Fare_places : Fo P w K mg base "are_places" 5 ["width", "value"] cArePlaces.sp := .mk' (qual := "are_places") (st := sare_places) Z22 (glo 22 _ rfl) (ok_are_places Z22 T Fare_words Fclimbs) (fun _ _ _ _ _ _ us hl => match us, hl with | [_, _], _ => rfl) (fun _ _ _ _ _ _ us hl => match us, hl with | [_, _], _ => rfl)
  have Fare_words_at : Fo P w K mg base "are_words_at" 5 ["width", "places", "value"] cWordsAt.sp := .mk' (qual := "are_words_at") (st := sare_words_at) Z23 (glo 23 _ rfl) (ok_are_words_at Z23 T Fare_words) (fun _ _ _ _ _ _ us hl => match us, hl with | [_, _, _], _ => rfl) (fun _ _ _ _ _ _ us hl => match us, hl with | [_, _, _], _ => rfl)
  have Fword_at : Fo P w K mg base "word_at" 5 ["width", "coefficients", "number"] cWorth.sp := .mk' (qual := "word_at") (st := sword_at) Z24 (glo 24 _ rfl) (ok_word_at Z24 T Fneed_width Fneed_coefficients Fneed_whole Fworth_at) (fun _ _ _ _ _ _ us hl => match us, hl with | [_, _, _], _ => rfl) (fun _ _ _ _ _ _ us hl => match us, hl with | [_, _, _], _ => rfl)
  have Fneed_places : Fo P w K mg base "need_places" 6 ["width", "places"] cNeedPlaces.sp := .mk' (qual := "need_places") (st := sneed_places) Z25 (glo 25 _ rfl) (ok_need_places Z25 T Fare_places) (fun _ _ _ _ _ _ us hl => match us, hl with | [_, _], _ => rfl) (fun _ _ _ _ _ _ us hl => match us, hl with | [_, _], _ => rfl)
  have Fneed_words : Fo P w K mg base "need_words" 6 ["width", "places", "words"] cNeedWords.sp := .mk' (qual := "need_words") (st := sneed_words) Z26 (glo 26 _ rfl) (ok_need_words Z26 T Fare_words_at) (fun _ _ _ _ _ _ us hl => match us, hl with | [_, _, _], _ => rfl) (fun _ _ _ _ _ _ us hl => match us, hl with | [_, _, _], _ => rfl)
  have FwordsN : Fo P w K mg base "words_at" 7 ["width", "coefficients", "places"] cWordsOf.spN := .mk' (qual := "words_at") (st := swords_at) Z27 (glo 27 _ rfl) ((ok_words_atN Z27 T Fneed_width Fneed_coefficients Fneed_places Fworth_at)) (fun _ _ _ _ _ _ us hl => match us, hl with | [_, _, _], _ => rfl) (fun _ _ _ _ _ _ us hl => match us, hl with | [_, _, _], _ => rfl)
  have Fwords_at : Fo P w K mg base "words_at" 7 ["width", "coefficients", "places"] cWordsOf.sp := .mk' (qual := "words_at") (st := swords_at) Z27 (glo 27 _ rfl) (spN_sp (ok_words_atN Z27 T Fneed_width Fneed_coefficients Fneed_places Fworth_at)) (fun _ _ _ _ _ _ us hl => match us, hl with | [_, _, _], _ => rfl) (fun _ _ _ _ _ _ us hl => match us, hl with | [_, _, _], _ => rfl)
  have Fparting_places : Fo P w K mg base "parting_places" 7 ["width", "places", "words", "others"] cParting.sp := .mk' (qual := "parting_places") (st := sparting_places) Z28 (glo 28 _ rfl) (spN_sp (ok_parting_placesN Z28 T Fneed_width Fneed_places Fneed_words)) (fun _ _ _ _ _ _ us hl => match us, hl with | [_, _, _, _], _ => rfl) (fun _ _ _ _ _ _ us hl => match us, hl with | [_, _, _, _], _ => rfl)
  have F_law_right : FoG P w K mg base "_law_right" 8 ["_law_generator_here"] cRight.sp := .mk' (qual := "_law_right") (st := s_law_right) Z29 (glo 29 _ rfl) (ok_law_right Z29 T FwordsN F_law_random F_law_power F_law_places F_law_twos F_law_word F_law_coefficients Fwords_at Fword_at Fparting_places Ftwos_in) (fun _ _ _ _ _ _ us hl => match us, hl with | [_], _ => rfl)
  exact ok_law Z30 T F_law_generator F_law_right Ftwos_in Fwords_at Fword_at
end K02
open PySem PySem.W PySem.Calls PyProof.Rows
theorem PySem.Challenge.cw_anyplaces_k02_whole_words_of_polynomials_holds : PySem.Challenge.rw_anyplaces_k02_whole_words_of_polynomials.Holds := by
  w_on; o_law
  refine HandSHeadRun.head_any (r := OpenLaw.row PySem.Challenge.rw_anyplaces_k02_whole_words_of_polynomials) (q := view (OpenLaw.row PySem.Challenge.rw_anyplaces_k02_whole_words_of_polynomials).prog [42]) (H := K02.hk) (ob := K02.ob) (M := 8000) (loose := K02.loose) (d := HandSHeadRun.topDef (OpenLaw.row PySem.Challenge.rw_anyplaces_k02_whole_words_of_polynomials).prog 42) (kwd := []) K02.ob_eq
    (by kernel_rfl) (fun s => by kernel_rfl) K02.run (by kernel_rfl) (by kernel_rfl) (by kernel_rfl) (by rfl) (by first | assumption | decide +kernel) (by decide +kernel) ⟨rfl, rfl, rfl, rfl, rfl, by decide +kernel⟩ ?hw ?hc
  case hw => w_witness2
  case hc =>
    refine AP.walk_G (l := PySem.Challenge.rw_anyplaces_k02_whole_words_of_polynomials) (n := 63) (k := 9) (x := "_law_script") rfl (by decide) (by kernel_rfl) ⟨rfl, by decide, by decide⟩ ?F
    intro w mg fa h Y G hmg0
    obtain ⟨K, KX, c⟩ := Y
    have hmg : mg ("law" : PySem.Str) = some (.ref fa) := by
      have e : (HandSHeadRun.topDef (OpenLaw.row PySem.Challenge.rw_anyplaces_k02_whole_words_of_polynomials).prog 42).name = ("law" : PySem.Str) := by kernel_rfl
      rw [← e]
      exact hmg0
    obtain ⟨fd, hb, hF⟩ := K02.facts (P := (PySem.Challenge.rw_anyplaces_k02_whole_words_of_polynomials).prog) (w := w) KX G hmg c
    exact ⟨K, fd, AP.spLaw K, KX, hb, fun H a ns hl _ hS => ⟨a, ns, rfl, hS, fun _ => rfl⟩, hF⟩

