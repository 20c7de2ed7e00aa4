import PyProof.Rows.All
import Wide.All
import OpenK.AllK
import Wide.FinOn
import HandS.ForMost
import HandS.IsInst
import HandS.Deep
import HandS.EndBits
import HandS.StrMore
import PyProof.StrBlock
import PyProof.StrLawsChain
import PyProof.FitsStr
import HandS.TupAny
import HandS.Zip
import HandS.NoneIn
import HandS.Small
import HandS.ExcInit
import KE.KExcInit
import PyProof.ExcBaseAll.IndexError
import PyProof.ExcBaseAll.LookupError
import PyProof.ExcBaseAll.RuntimeError
import PyProof.ExcBaseAll.OverflowError
import KE.KExcIs
import HandS.ExcIs
import HandS.ExcField
import PyProof.FitsInt
import HandS.Style
import PySem.Challenge.RW_onehistory_k03_refusals_apart
set_option Elab.async false
set_option linter.all false
set_option maxRecDepth 100000
set_option maxHeartbeats 8000000
section
/-! Defs that keep a promise wherever no repr is under way: their calls, the makings of instances, the end of a law. -/
namespace Hv
open PySem PySem.Spec PyProof.Rows L2

/-- as FnOk, but for callers around whom no guard stands (so that repr may be called within) -/
structure Keeps (P : Program) (w : World) (K : PySem.W.Frag) (mg : Str → Option Value) (base : Heap) (CX : CXT) (k : Nat) (f : Addr) (fd : FuncData) (ps : List Str) (sp : Sp) : Prop where
  many : ∀ vs H Q E, sp vs H Q E → vs.length = ps.length
  go : ∀ (A : Around) (outer : List Env) (s : Shared) (H : Hp) (args : Args) (us : List Value) (vs : List V) (Q : VK) (E : XK),
    Room k A → A.guards = some [] → Env0 P w K mg base A outer s H → BindsTo s fd args (ps.zip us) →
      Vals vs us → sp vs H Q E → codeAny (model P w) A (.call (.ref f) args) (CR CX outer P w H s Q E) s

section
variable {P : Program} {w : World} {K : PySem.W.Frag} {mg : Str → Option Value} {base : Heap} {CX : CXT}
theorem Keeps.up {j k : Nat} {f : Addr} {fd : FuncData} {ps : List Str} {sp : Sp} (F : Keeps P w K mg base CX j f fd ps sp) (h : j ≤ k) : Keeps P w K mg base CX k f fd ps sp :=
  ⟨F.many, fun A outer s H args us vs Q E room => F.go A outer s H args us vs Q E (room.mono h)⟩

/-- a def of the text by its body's walk -/
theorem keeps_of {k : Nat} {f : Addr} {x qual : Str} {st : Stmt} {fd : FuncData} {N ps : List Str} {sp : Sp} (F : Fun K x qual st f fd) (S : FnScope N ps (defScope st))
    (many : ∀ vs H Q E, sp vs H Q E → vs.length = ps.length)
    (walk : ∀ (cdv : Value) (A : Around) (outer : List Env) (s : Shared) (H : Hp) (vs : List V) (Q : VK) (E : XK),
      Room k (A.deeper (envOfC qual (defScope st) s.heap.objs.size f cdv)) → A.guards = some [] → sp vs H Q E →
      ∃ t, PSs (cxOf CX P w K mg base N qual (defScope st) f cdv A outer s H E) (defBody st) t ∧
        t { nx := fun _ H' => Q .non H', rt := Q } (start N vs) H) :
    Keeps P w K mg base CX (k + 1) f fd ps sp := by
  obtain ⟨oc, od, kV, doc, pm, an, cdv, ct, osl, rfl, look, code⟩ := F.ex
  constructor
  · exact many
  · intro A outer s H args us vs Q E room calm env bind vals want
    have size := many _ _ _ _ want
    have inK : K.In s.heap := env.mod.kin.keeps fun b o e => (env.bs b o e).1
    have free : s.heap.NoLimit := env.mod.nolimit.keeps fun b o e => (env.bs b o e).1
    have sorts : ∀ y ∈ ps.zip us, (defScope st).names.lookup y.1 = some .local ∨
        ((defScope st).names.lookup y.1 = some .cell ∧ ((cellsFrom (s.heap.objs.size + 1) (defScope st).names []).lookup y.1).isSome = true) := by
      rintro ⟨n, v⟩ hy
      rcases S.par n (List.of_mem_zip hy).1 with q | q
      · exact Or.inl q
      · exact Or.inr ⟨q, PySem.W.cellsFrom_some _ _ _ (Or.inl q)⟩
    refine codeAny_call_function room.depth (inK _ _ look) rfl S.co S.gen rfl
      (PySem.W.codeRec_of inK code) (bind _ _ _ _ ?_)
    refine wpAny_newFunctionEnv_cells S.kind sorts fun ev hev s1 hx => ?_
    subst hev
    refine ⟨free.keeps hx.toInCall.keep, codeAny_func ?_⟩
    obtain ⟨t, derived, reads⟩ := walk cdv A outer s H vs Q E (room.deeper _) calm want
    have inv := inv_start (CX := CX) (E := E) S room.hd env size vals hx
    refine wpAny_mono (derived.run [] s1 (start N vs) H _ inv reads) ?_ ?_
    · intro fl s' hs
      have stop : ∀ {σ' : L2.St} {H' : Hp} {v : V} {u : Value},
          Inv (cxOf CX P w K mg base N qual (defScope st) f cdv A outer s H E) [] σ' H' s' →
          RelV v u → Q v H' → CE outer P w H s Q u s' := by
        intro σ' H' v u J rv q
        exact ⟨v, H', J.os, J.bare, J.base, J.hok, rv, q⟩
      cases fl with
      | ret u => exact let ⟨v, σ', H', J, rv, q⟩ := hs; stop J rv q
      | next => exact let ⟨σ', H', J, q⟩ := hs; stop (v := V.non) (u := Value.none) J rfl q
      | brk => exact let ⟨_, _, _, q⟩ := hs; q.elim
      | cont => exact let ⟨_, _, _, q⟩ := hs; q.elim
    · exact fun e s' hs => hs
/-- the same where nothing that is raised leaves the def -/
theorem keeps0 {k : Nat} {f : Addr} {x qual : Str} {st : Stmt} {fd : FuncData} {N ps : List Str} {sp : Sp} (F : Fun K x qual st f fd) (S : FnScope N ps (defScope st))
    (many : ∀ vs H Q E, sp vs H Q E → vs.length = ps.length)
    (walk : ∀ (cdv : Value) (A : Around) (outer : List Env) (s : Shared) (H : Hp) (vs : List V) (Q : VK) (E : XK),
      Room k (A.deeper (envOfC qual (defScope st) s.heap.objs.size f cdv)) → A.guards = some [] → sp vs H Q E →
      ∃ t, PSs (cxOf CX0 P w K mg base N qual (defScope st) f cdv A outer s H E).nox (defBody st) t ∧
        t { nx := fun _ H' => Q .non H', rt := Q } (start N vs) H) :
    Keeps P w K mg base CX0 (k + 1) f fd ps sp :=
  keeps_of F S many fun cdv A outer s H vs Q E room calm want => let ⟨t, d, r⟩ := walk cdv A outer s H vs Q E room calm want; ⟨t, d.nox, r⟩
end

section
variable {X : Cx} {CX : CXT} {k : Nat} {f C : Addr} {fd : FuncData} {ps : List Str} {sp : Sp} {dvs : List V} {ds : List Value} {E : XK}
/-- the value of a call of such a def -/
theorem callR_fn (F : Keeps X.prog X.w X.K X.mg X.base CX k f fd ps sp) (room : Room k X.A) (calm : X.A.guards = some []) (bind : Binds X.K fd ps ds) (dv : Vals dvs ds) (pass : Passes CX X E) :
    CallR X (.ref f) (fun vs H Q => sp (vs ++ dvs) H Q E) := by
  intro pins s σ H vs us Q I vals want
  have all : Vals (vs ++ dvs) (us ++ ds) := vals.append dv
  have size : (us ++ ds).length = ps.length := all.length.symm.trans (F.many _ _ _ _ want)
  refine wpAny_call (codeAny_mono (F.go X.A X.stack s H ⟨us, []⟩ (us ++ ds) (vs ++ dvs) Q E room calm I.env0
    (bind s us I.kIn size) all want) ?_)
  intro r s' hr
  rcases r with e | fl
  · exact pass pins σ H s e s' I hr
  · cases fl <;> first | exact I.after hr | exact hr.elim
/-- C(..), an own class with such an __init__ -/
theorem callR_make (M : Mk X.K C f) (F : Keeps X.prog X.w X.K X.mg X.base CX k f fd ps sp) (room : Room (k + 1) X.A) (calm : X.A.guards = some []) (bind : Binds X.K fd ps ds) (dv : Vals dvs ds) (pass : Passes CX X E) :
    CallR X (.ref C) (fun vs H Q => ∀ x dx, H x = none → H dx = none → dx ≠ x →
      sp (.ref x :: (vs ++ dvs)) (upd (upd H dx (.own x)) x (.ins C dx [])) (fun v H2 => v = .non ∧ Q (.ref x) H2) E) := by
  intro pins s σ H vs us Q I vals want
  have at0 := want (s.heap.objs.size + 1) s.heap.objs.size (I.hok.fresh (Nat.le_succ _)) (I.hok.fresh (Nat.le_refl _))
    (Nat.ne_of_lt (Nat.lt_succ_self _))
  have J := Inv.made (C := C) I
  have all : Vals (V.ref (s.heap.objs.size + 1) :: (vs ++ dvs)) (Value.ref (s.heap.objs.size + 1) :: (us ++ ds)) :=
    .cons rfl (vals.append dv)
  have size : (Value.ref (s.heap.objs.size + 1) :: us ++ ds).length = ps.length :=
    (all.length.symm.trans (F.many _ _ _ _ at0) : _)
  have calm2 : (X.A.under (.builtin "type.__call__" ⟨Value.ref C :: us, []⟩)).guards = some [] := by
    show pushGuards (Code.builtin "type.__call__" ⟨Value.ref C :: us, []⟩).guards X.A.guards = some []
    rw [calm]; rfl
  refine wpAny_call (make_map (f := f) I.kIn M.makes M.init (beq_iff_eq.mp M.fn) (codeAny_mono
    (F.go _ X.stack _ _ ⟨Value.ref (s.heap.objs.size + 1) :: us, []⟩ (Value.ref (s.heap.objs.size + 1) :: (us ++ ds)) _ _ E
      (room.make C us []) calm2 (J.env0.make C us []) (bind _ (Value.ref (s.heap.objs.size + 1) :: us) J.kIn size) all at0) ?_))
  intro r s' hr
  rcases r with e | fl
  · exact pass pins σ _ _ e s' J hr
  · cases fl <;> first | exact hr.elim | skip
    obtain ⟨v, H', J2, rv, ev, q⟩ := J.after hr
    subst ev
    exact ⟨rv, ⟨V.ref (s.heap.objs.size + 1), H', J2, rfl, q⟩⟩

variable {x m : Str} {p pos apos : Pos} {e o : Expr} {es : List Expr} {ta : TE} {t : TA} {r : List V → Hp → VK → Prop}
/-- x(e, ..), x a name of the module that holds the thing at f -/
theorem pe_v (c : CallR X (.ref f) r) (hg : Gl X x) (hm : X.mg x = some (.ref f)) (kept : PySem.W.keepIn X.K (.ref f) = true) (ha : PA X (e :: es) t)
    (nd : (x == ("__debug__" : Str)) = false := by decide) (h1 : starEach (e :: es) X.env = (false, eval e X.env) :: starEach es X.env := by rfl)
    (h2 : (backTo pos (starEach es X.env)).any (·.1) = false := by rfl) : PE X (.Call (.Name x p) (e :: es) [] pos) (tCB r t) := by
  constructor
  intro pins s σ H Q I h
  refine wpAny_Call_Name_kw (ld_glob I hg hm ?_ nd)
  refine PySem.W.callWith_K (h₀ := X.base) I.ok.mod.kin kept (thn (ha.run pos pins s σ H _ I h) ?_) h1 h2
  rintro us s1 ⟨vs, H1, J, vals, q⟩
  exact ⟨J.kIn, c pins s1 σ H1 vs us Q J vals q⟩
theorem pe_v0 (c : CallR X (.ref f) r) (hg : Gl X x) (hm : X.mg x = some (.ref f)) (kept : PySem.W.keepIn X.K (.ref f) = true)
    (nd : (x == ("__debug__" : Str)) = false := by decide) : PE X (.Call (.Name x p) [] [] pos) (tCB r tNil) := by
  constructor
  intro pins s σ H Q I h
  refine wpAny_Call_Name_kw (ld_glob I hg hm ?_ nd)
  exact PySem.W.callWith_K0 I.kIn kept (c pins s σ H [] [] Q I .nil h)
/-- o.m(e, ..) of an instance of the class at C -/
def tMth (C : Addr) (m : Str) (r : List V → Hp → VK → Prop) (ta : TE) (t : TA) : TE := fun σ H Q => ta σ H fun x H1 =>
  ∃ a dx fs, x = .ref a ∧ H1 a = some (.ins C dx fs) ∧ fs.lookup m = none ∧ t σ H1 fun vs H2 => r (x :: vs) H2 Q
theorem pe_w {pl : Sem Bool} (he : PE X o ta) (cl : Cls X.K C) (hm : Meth X.K C m f) (c : CallR X (.ref f) r) (ha : PA X (e :: es) t)
    (h1 : starEach (e :: es) X.env = (false, eval e X.env) :: starEach es X.env := by rfl) (h2 : (backTo pos (starEach es X.env)).any (·.1) = false := by rfl)
    (h3 : eval (.Call (.Attribute o m apos) (e :: es) [] pos) X.env = (do
      let ov ← eval o X.env
      standAt apos.atName
      let (g, first) ← holding [ov] (getMethod ov m pl)
      callWith pos g first (backTo pos (starEach (e :: es) X.env)) (backToKw pos (keywordEach [] X.env))) := by rfl) :
    PE X (.Call (.Attribute o m apos) (e :: es) [] pos) (tMth C m r ta t) := by
  constructor
  intro pins s σ H Q I h
  refine PySem.W.methodCall_KW (pl := pl) (thn (he.run pins s σ H _ I h) ?_) h3
  rintro u s1 ⟨y, H1, J, ry, a, dx, fs, rfl, ea, no, q⟩
  cases (show u = Value.ref a from ry)
  refine getmeth_ok J ea cl hm no ?_
  refine PySem.W.callWith_K (first := [.ref a]) (h₀ := X.base) I.ok.mod.kin hm.kp (thn (ha.run pos pins s1 σ H1 _ J q) ?_) h1 h2
  rintro us s2 ⟨vs, H2, J2, vals, q2⟩
  exact ⟨J2.kIn, c pins s2 σ H2 (.ref a :: vs) (.ref a :: us) Q J2 (.cons rfl vals) q2⟩
theorem pe_w0 {pl : Sem Bool} (he : PE X o ta) (cl : Cls X.K C) (hm : Meth X.K C m f) (c : CallR X (.ref f) r)
    (h3 : eval (.Call (.Attribute o m apos) [] [] pos) X.env = (do
      let ov ← eval o X.env
      standAt apos.atName
      let (g, first) ← holding [ov] (getMethod ov m pl)
      callWith pos g first (backTo pos (starEach [] X.env)) (backToKw pos (keywordEach [] X.env))) := by rfl) :
    PE X (.Call (.Attribute o m apos) [] [] pos) (tMth C m r ta tNil) := by
  constructor
  intro pins s σ H Q I h
  refine PySem.W.methodCall_KW (pl := pl) (thn (he.run pins s σ H _ I h) ?_) h3
  rintro u s1 ⟨y, H1, J, ry, a, dx, fs, rfl, ea, no, q⟩
  cases (show u = Value.ref a from ry)
  refine getmeth_ok J ea cl hm no ?_
  exact PySem.W.callWith_K0 (first := [.ref a]) J.kIn hm.kp (c pins s1 σ H1 [.ref a] [.ref a] Q J (.cons rfl .nil) q)
end
end Hv
end

section
namespace Hv
open PySem PySem.Spec PyProof.Rows L2
section
variable {P : Program} {w : World} {K : PySem.W.Frag} {mg mb : Str → Option Value} {k : Nat} {fa a : Addr} {fd : FuncData} {x : Str} {sp : Sp} {s₁ : Shared} {vs : List Value} {ns : List Int}
/-- the law's call, from the heap behind the top, over an abstract heap that bears the script at most -/
theorem call_over (inK : K.In s₁.heap) (globs : s₁.heap.Ns mainGlobals mg) (blt : s₁.heap.Ns builtinsNs mb) (boot : ∀ x : Str, x ≠ "__name__" → mb x = bootBuiltins x)
    (free : s₁.heap.NoLimit) (nogens : s₁.gens = #[]) (obj : s₁.heap.get? a = some { cls := .type "list", data := .seq vs.toArray }) (room : Room k callerA)
    (F : ∀ base : Heap, K.In base → base.Ns mainGlobals mg → Keeps P w K mg base CX0 k fa fd [x] sp)
    (bind : ∀ (s : Shared) (u : Value), BindsTo s fd ⟨[u], []⟩ [(x, u)])
    (H : Hp) (only : Only H) (ok : HOk P w H s₁.heap) (alone : ∀ b, H b ≠ none → b = a) (apart : H a ≠ none → K.lookup a = none)
    (want : sp [.ref a] H (fun v _ => v = .bl true) E0) :
    codeAny (model P w) callerA (.call (.ref fa) ⟨[.ref a], []⟩)
      (fun r s' => r = .ok (.ret (.bool true)) ∧ OldK s₁.heap s'.heap ∧ s'.os = s₁.os ∧ AllBare s'.gens) s₁ := by
  have keep : ∀ {b : Addr} {o : Obj}, s₁.heap.get? b = some o → H b = none → (hidT s₁.heap H).get? b = some o :=
    fun e n => hidT_get e n
  have plain : ∀ {b : Addr} {o : Obj} {es : Array DictEntry} {ep : Nat}, s₁.heap.get? b = some o → o.data = .dict es ep → H b = none := by
    intro b o es ep e d
    by_cases hb : H b = none
    · exact hb
    · obtain rfl := alone b hb
      rw [obj] at e
      cases e
      cases (show Data.seq vs.toArray _ = Data.dict es ep from d)
  have names : ∀ {b : Addr} {m : Str → Option Value}, s₁.heap.Ns b m → (hidT s₁.heap H).Ns b m := by
    rintro b m ⟨o, es, ep, e, d, r⟩
    exact ⟨o, es, ep, keep e (plain e d), d, r⟩
  have inBase : K.In (hidT s₁.heap H) := by
    intro b o e
    refine keep (inK b o e) ?_
    by_cases hb : H b = none
    · exact hb
    · have eb := alone b hb
      subst eb
      rw [apart hb] at e
      cases e
  have limit : (hidT s₁.heap H).NoLimit := let ⟨mc, h1, h2⟩ := free; ⟨mc, names h1, h2⟩
  have md : Mod K mg (hidT s₁.heap H) := ⟨inBase, names globs, ⟨mb, names blt, boot⟩, limit⟩
  have env : Env0 P w K mg (hidT s₁.heap H) callerA [] s₁ H :=
    { frames := rfl, mod := md, bs := fun b o e => of_hidT e, bsz := Nat.le_of_eq (hidT_size _ _), funs := trivial,
      frf := fun b hb => absurd (show b ∈ ([] : List Addr) from hb) (by simp), hok := ok, bare := .of_eq nogens }
  refine codeAny_mono ((F _ inBase (names globs)).go callerA [] s₁ H ⟨[.ref a], []⟩ [.ref a] [.ref a] _ _ room rfl env
    (bind s₁ (.ref a)) (.cons rfl .nil) want) ?_
  intro r s' hr
  rcases r with e | fl
  · exact hr.elim
  · cases fl <;> first | exact hr.elim | skip
    obtain ⟨v, H', os, bare, un, ok', rv, q⟩ := hr
    subst q
    cases (show _ = Value.bool true from rv)
    refine ⟨rfl, OldK.of_keep ?_, os, bare⟩
    intro b o e
    rcases only b with z | ⟨ob, xs, z⟩
    · exact un.keep b o e z (by intro y; exact absurd (show b ∈ ([] : List Addr) from y) (by simp)) (by simp)
    · have old := (ok b _ z).1
      have new := (ok' b _ (un.frzs b ob _ z)).1
      rw [e] at old
      cases old
      exact new
/-- the same, the abstract heap made here -/
theorem call_law (inK : K.In s₁.heap) (globs : s₁.heap.Ns mainGlobals mg) (blt : s₁.heap.Ns builtinsNs mb) (boot : ∀ x : Str, x ≠ "__name__" → mb x = bootBuiltins x)
    (free : s₁.heap.NoLimit) (nogens : s₁.gens = #[]) (obj : s₁.heap.get? a = some { cls := .type "list", data := .seq vs.toArray }) (areInts : IntsAre vs ns)
    (few : ns.length ≤ sizeLine) (room : Room k callerA)
    (F : ∀ base : Heap, K.In base → base.Ns mainGlobals mg → Keeps P w K mg base CX0 k fa fd [x] sp)
    (bind : ∀ (s : Shared) (u : Value), BindsTo s fd ⟨[u], []⟩ [(x, u)])
    (want : ∀ H : Hp, Only H → SqL K H a (ns.map V.int) → sp [.ref a] H (fun v _ => v = .bl true) E0) :
    codeAny (model P w) callerA (.call (.ref fa) ⟨[.ref a], []⟩)
      (fun r s' => r = .ok (.ret (.bool true)) ∧ OldK s₁.heap s'.heap ∧ s'.os = s₁.os ∧ AllBare s'.gens) s₁ := by
  have rv := vals_ints areInts
  have size := areInts.length
  have go := fun H only sq ok alone apart => call_over inK globs blt boot free nogens obj room F bind H only ok alone apart (want H only sq)
  by_cases hk : ∃ o, K.lookup a = some o
  · obtain ⟨o, hk⟩ := hk
    have e := inK a o hk
    rw [obj] at e
    cases e
    refine go (fun _ => none) (fun _ => Or.inl rfl) ?_ ?_ (fun b z => absurd rfl z) (fun z => absurd rfl z)
    · refine Or.inr ⟨_, vs.toArray, _, hk, rfl, rfl, rfl, ?_, ?_⟩
      · rw [List.size_toArray, size]; exact few
      · simpa using rv
    · intro b u z
      cases (show (none : Option HO) = some u from z)
  · have hk' : K.lookup a = none := by
      cases h : K.lookup a with
      | none => rfl
      | some o => exact absurd ⟨o, h⟩ hk
    let ob : Obj := { cls := .type "list", data := .seq vs.toArray }
    let H : Hp := fun b => if b = a then some (.frz ob (.lst (ns.map V.int))) else none
    have at_a : H a = some (.frz ob (.lst (ns.map V.int))) := if_pos rfl
    have off_a : ∀ {b}, b ≠ a → H b = none := fun h => if_neg h
    refine go H (fun b => ?_) (Or.inl (Or.inr ⟨ob, at_a⟩)) (fun b u z => ?_) (fun b z => ?_) fun _ => hk'
    · by_cases hb : b = a
      · subst hb; exact Or.inr ⟨_, _, at_a⟩
      · exact Or.inl (off_a hb)
    · by_cases hb : b = a
      · subst hb
        rw [at_a] at z
        cases z
        exact ⟨obj, by rw [List.length_map]; exact few, vs, _, rv, obj⟩
      · rw [off_a hb] at z; cases z
    · by_cases hb : b = a
      · exact hb
      · exact absurd (off_a hb) z
end
/-- the end: a law's row from the promise of its def -/
theorem walkK {l : PySem.W.OpenLaw} {n k : Nat} {q : Program} {loose : List Str} {XP : (Str → Option Value) → Heap → Prop} {YP : World → Heap → Prop} {d : DefRec} {K : Params → PySem.W.Frag} {sp : PySem.W.Frag → Sp} {x : Str}
    (hn : l.most = some n) (few : n ≤ sizeLine) (plain : d.params.defaults = []) (room : Room k callerA)
    (hY : ∀ (w : World) (h : Heap), YP w h → (K w.params).In h)
    (F : ∀ (w : World) (mg : Str → Option Value) (fa : Addr) (h : Heap), (K w.params).In h → h.Ns mainGlobals mg → mg d.name = some (.ref fa) →
      ∃ fd : FuncData, (∀ (s : Shared) (u : Value), BindsTo s fd ⟨[u], []⟩ [(x, u)]) ∧
        ∀ base : Heap, (K w.params).In base → base.Ns mainGlobals mg → Keeps l.prog w (K w.params) mg base CX0 k fa fd [x] (sp (K w.params)))
    (want : ∀ (K : PySem.W.Frag) (H : Hp) (a : Addr) (ns : List Int), ns.length ≤ n → (∀ i ∈ ns, Builtin.Int.intBits i ≤ 1048576) → Only H → SqL K H a (ns.map V.int) → sp K [.ref a] H (fun v _ => v = .bl true) E0) :
    PySem.W.WalkO q loose XP YP l.row.toRowW d [] (fun f vs => PySem.call f vs) := by
  refine Att.attach_callB hn plain fun w s₀ s₁ mg mb fa o pm cd doc a vs ns G Y ho hd hcd hmg hobj hints hlen bits hg => ?_
  have inK := hY w _ Y
  obtain ⟨fd, bind, keeps⟩ := F w mg fa _ inK G.T.g hmg
  exact call_law inK G.T.g G.T.b G.T.builtins G.T.nolimit hg hobj hints (Nat.le_trans hlen few) room keeps bind
    fun H only sq => want _ H a ns hlen bits only sq
end Hv
end

section
/-! Rules of our own: order of texts, repr of data, kinds of values, comprehensions that keep and change items. -/
namespace Hv
open PySem PySem.Spec PyProof.Rows L2
section
variable {X : Cx}
theorem op_leS : OpR X (compareOp .LtE) (fun x y H Q => ∃ i j, x = .str i ∧ y = .str j ∧ Q (.bl (!decide (j.cps.toList < i.cps.toList))) H) := by
  intro pins s σ H x y v u Q I rx ry h
  obtain ⟨i, j, rfl, rfl, q⟩ := h
  obtain ⟨t, rfl⟩ := rx
  obtain ⟨t', rfl⟩ := ry
  exact PySem.P.le_str ⟨.bl _, H, I, rfl, q⟩

/-- data of the heap: as Dp, with dicts whose keys are ints and texts -/
inductive Da (K : PySem.W.Frag) (H : Hp) : V → PyData → Prop
  | dp {v : V} {d : PyData} : Dp K H v d → Da K H v d
/-- repr of a list or tuple of data -/
theorem call_reprD (calm : X.A.guards = some []) (hu : X.A.units + 70 < cLine) : CallR X (.builtin "repr") (fun xs H Q => ∃ (a : Addr) (d : PyData),
    xs = [.ref a] ∧ Dp X.K H (.ref a) d ∧ d.showable = true ∧ d.hasDict = false ∧ d.depth ≤ 60 ∧ d.shown.length ≤ sizeLine ∧ Q (.str d.shown) H) := by
  intro pins s σ H xs us Q I r h
  obtain ⟨a, d, rfl, dp, sh, nd, dep, sz, q⟩ := h
  obtain ⟨u, rfl, ru⟩ := Vals.one r
  cases (show u = Value.ref a from ru)
  obtain ⟨as, rd⟩ := Dp.reads I d (.ref a) (.ref a) dp rfl
  refine repr_of_reads' rd sh (fun z => by rw [nd] at z; cases z) calm (by omega) (fun _ _ e => e) ?_ sz
  intro h' tk n k
  exact ⟨.str d.shown, H, I.kept (t' := n) k, ⟨_, rfl⟩, q⟩
end
/-- a value is the text told, or of another kind than a text -/
inductive Kd (K : PySem.W.Frag) (H : Hp) : V → Option Str → Prop
  | str (z : Str) : Kd K H (.str z) (some z)
  | oth {x : V} {t : Value} (ty : TyX K H x t) (no : PySem.W.kitOne K t (.type "str") = some false) : Kd K H x none
/-- isinstance(x, str) -/
theorem Kd.ty {K : PySem.W.Frag} {H : Hp} {x : V} {o : Option Str} (h : Kd K H x o) : ∃ t, TyX K H x t ∧ PySem.W.kitOne K t (.type "str") = some o.isSome := by
  cases h with
  | str z => exact ⟨_, .base (.str z), kit_ty (show kitB "str" "str" = some true by decide +kernel)⟩
  | oth ty no => exact ⟨_, ty, no⟩
theorem same_ty {K : PySem.W.Frag} {H H' : Hp} {x : V} {t : Value} (s : Same H H') (h : TyX K H x t) : TyX K H' x t := by
  cases h with
  | base b =>
    refine .base ?_
    cases b with
    | non => exact .non
    | bl y => exact .bl y
    | int i => exact .int i
    | str y => exact .str y
    | flt y => exact .flt y
    | lst e => exact .lst (s _ _ e)
    | frz e => exact .frz (s _ _ e)
    | tup e => exact .tup (s _ _ e)
    | dK e => exact .dK (s _ _ e)
    | dT e => exact .dT (s _ _ e)
    | ins e a b c d f => exact .ins (s _ _ e) a b c d f
  | byt b => exact .byt b
  | set e => exact .set (s _ _ e)
  | kList e c => exact .kList e c
  | kTuple e c => exact .kTuple e c
  | kDict e c => exact .kDict e c
  | fTuple e => exact .fTuple (s _ _ e)
  | fDict e => exact .fDict (s _ _ e)
theorem same_kd {K : PySem.W.Frag} {H H' : Hp} {x : V} {o : Option Str} (s : Same H H') (h : Kd K H x o) : Kd K H' x o := by
  cases h with
  | str z => exact .str z
  | oth ty no => exact .oth (same_ty s ty) no
theorem same_new {H : Hp} {p : Addr} {o : HO} (h : H p = none) : Same H (upd H p o) := fun b u e => by
  rw [upd_ne (ne_of_none e h)]; exact e
theorem same_put {H H' : Hp} {D : Addr} {o : HO} (s : Same H H') (h : H D = none) : Same H (upd H' D o) := fun b u e => by
  rw [upd_ne (ne_of_none e h)]; exact s b u e

/-- a comprehension that walks a text and makes of each sign a value by f, or leaves it out -/
theorem lc_text {x : Str} {f : Nat → Option V} {g : TG} {tt : TT} {te : TE} {vs : List Nat} {σ : L2.St} {H1 : Hp} {D : Addr} {Qd : Hp → Prop}
    (new : H1 D = none) (short : x.cps.size < sizeLine)
    (turn : ∀ (c : Nat) (H : Hp) (Post : Bool → V → Hp → Prop), Same H1 H →
      (∀ y H4, f c = some y → Same H H4 → Post true y H4) → (∀ H4, f c = none → Same H H4 → Post false .non H4) →
      g (.str ⟨#[c]⟩) (wipe σ vs) H fun σ2 H2 => wipe σ2 vs = wipe σ vs ∧ tt σ2 H2 fun b H3 => if b = true then te σ2 H3 fun y H4 => Post true y H4 else Post false .non H3)
    (done : ∀ H, Same H1 H → H D = some (.lst (x.cps.toList.filterMap f)) → Qd H) :
    ∃ W : Nat → Nat → Hp → Prop, (∃ m, W 0 m (upd H1 D (.lst []))) ∧ ∀ i m H, W i m H →
      ((Its x).stop i H ∧ Qd H) ∨ ((Its x).go i H ∧ ∃ Nx : Hp → Prop, (∀ H', Nx H' → ∃ m', m' < m ∧ W (i + 1) m' H') ∧ ∀ v H', (Its x).yld i H v H' → g v (wipe σ vs) H' fun σ2 H2 => wipe σ2 vs = wipe σ vs ∧ tt σ2 H2 fun b H3 =>
        if b = true then te σ2 H3 fun y H4 => ∃ acc, H4 D = some (.lst acc) ∧ acc.length < sizeLine ∧ Nx (upd H4 D (.lst (acc ++ [y]))) else Nx H3) := by
  refine ⟨fun i m H => m = x.cps.size - i ∧ i ≤ x.cps.size ∧ Same H1 H ∧ H D = some (.lst ((x.cps.toList.take i).filterMap f)), ⟨_, rfl, Nat.zero_le _, ?_, ?_⟩, ?_⟩
  · exact same_new new
  · exact upd_same
  · rintro i m H ⟨rfl, hi, sm, at_D⟩
    by_cases lt : i < x.cps.size
    · refine .inr ⟨lt, fun H => Same H1 H ∧ H D = some (.lst ((x.cps.toList.take (i + 1)).filterMap f)), fun H' q => ⟨_, by omega, rfl, lt, q⟩, ?_⟩
      rintro v H' ⟨rfl, c, hc, rfl⟩
      have hc' : x.cps.toList[i]? = some c := by simpa using hc
      have step : (x.cps.toList.take (i + 1)).filterMap f = (x.cps.toList.take i).filterMap f ++ (match f c with | some y => [y] | none => []) := by
        rw [List.take_add_one, hc', Option.toList_some, List.filterMap_append]
        cases e : f c <;> simp [List.filterMap, e]
      have small : ((x.cps.toList.take i).filterMap f).length < sizeLine := by
        refine Nat.lt_of_le_of_lt (List.length_filterMap_le _ _) (Nat.lt_of_le_of_lt ?_ short)
        rw [List.length_take]
        simp only [Array.length_toList]
        omega
      refine turn c H' (fun b y H4 => if b = true then ∃ acc, H4 D = some (.lst acc) ∧ acc.length < sizeLine ∧ (Same H1 (upd H4 D (.lst (acc ++ [y]))) ∧ upd H4 D (.lst (acc ++ [y])) D = some (.lst ((x.cps.toList.take (i + 1)).filterMap f))) else (Same H1 H4 ∧ H4 D = some (.lst ((x.cps.toList.take (i + 1)).filterMap f)))) sm ?_ ?_
      · intro y H4 e k
        rw [if_pos rfl]
        refine ⟨_, k _ _ at_D, small, same_put (sm.trans k) new, ?_⟩
        rw [upd_same, step, e]
      · intro H4 e k
        rw [if_neg (by decide)]
        refine ⟨sm.trans k, ?_⟩
        rw [k _ _ at_D, step, e, List.append_nil]
    · have e : i = x.cps.size := by omega
      subst e
      refine .inl ⟨Nat.le_refl _, done H sm ?_⟩
      rw [at_D]
      congr 3
      exact List.take_of_length_le (by simp)
end Hv
end

section
/-! Texts: pieces, the stroke ahead, single signs. -/
namespace Hv
open PySem PySem.Spec PyProof.Rows L2
theorem str_ext {a b : Str} (h : a.cps.toList = b.cps.toList) : a = b := by
  obtain ⟨⟨a⟩⟩ := a
  obtain ⟨⟨b⟩⟩ := b
  simp only at h
  rw [h]
theorem str_len (z : Str) : z.length = z.cps.toList.length := by simp [Str.length]
theorem parts_short (x : Str) (w : Nat) : ∀ (cuts : List Nat) (a : Nat), ∀ p ∈ StrLaws.partsFrom x w a cuts, p.length ≤ x.length
  | [], a, p, h => by
    rw [show p = Builtin.Str.strSub x a x.length by simpa [StrLaws.partsFrom] using h]
    exact le_strSub x a x.length
  | c :: r, a, p, h => by
    rcases List.mem_cons.mp (show p ∈ Builtin.Str.strSub x a c :: StrLaws.partsFrom x w (c + w) r from h) with e | e
    · rw [e]; exact le_strSub x a c
    · exact parts_short x w r _ p e
theorem split_short (x y : Str) : ∀ p ∈ Txt.split x y, p.length ≤ x.length := by
  intro p h
  unfold Txt.split at h
  split at h
  · rw [show p = x by simpa using h]; exact Nat.le_refl _
  · split at h
    · rw [show p = x by simpa using h]; exact Nat.le_refl _
    · rw [StrLaws.partsBetween_eq] at h
      exact parts_short x _ _ _ p h
/-- a stroke stands ahead -/
def slash (z : Str) : Bool := decide (z.cps.toList.head? = some 47)
def unslash (z : Str) : Str := ⟨(z.cps.toList.drop (if slash z then 1 else 0)).toArray⟩
theorem code_slash : (Str.ofString "/") = (⟨#[47]⟩ : Str) := by decide +kernel
theorem head_get {α : Type} (l : List α) : l[0]? = l.head? := by cases l <;> rfl
theorem sub_slash (z : Str) : Builtin.Str.subAt z (⟨#[47]⟩ : Str) 0 = slash z := by
  have q := StrLaws.subAt_one z 47 0
  rw [head_get] at q
  rw [Bool.eq_iff_iff]
  unfold slash
  rw [decide_eq_true_iff, ← q]
  constructor
  · intro h
    refine ⟨?_, h⟩
    rw [StrLaws.subAt_eq] at h
    have h' : ((z.cps.toList.drop 0).take 1 == [47]) = true := h
    have e2 := str_len z
    cases e : z.cps.toList with
    | nil => rw [e] at h'; cases h'
    | cons c r =>
      rw [e, List.length_cons] at e2
      show 0 + 1 ≤ z.length
      omega
  · exact fun h => h.2
theorem take_tail (z : Str) : List.take (z.cps.size - 1) z.cps.toList.tail = z.cps.toList.tail :=
  List.take_of_length_le (by simp)
/-- removeprefix('/') -/
theorem prefix_slash (z : Str) : Txt.removeprefix z (Str.ofString "/") = unslash z := by
  rw [code_slash]
  unfold Txt.removeprefix unslash
  rw [sub_slash]
  cases h : slash z with
  | false => exact str_ext (by simp [Txt.affix])
  | true =>
    refine str_ext ?_
    rw [if_pos rfl]
    show (if (z.length - 1 == z.length) = true then z else Builtin.Str.strSub z 1 z.length).cps.toList = _
    have ne : z.length ≠ 0 := by
      intro e
      have q := of_decide_eq_true h
      rw [str_len] at e
      rw [List.length_eq_zero_iff.mp e] at q
      cases q
    rw [if_neg (by rw [beq_iff_eq]; omega)]
    simp [Builtin.Str.strSub, Str.length, take_tail]
/-- z[int(z[:1] == '/'):] -/
theorem cut_slash (z : Str) : cutS z (some (if slash z then (1 : Int) else 0)) none = unslash z := by
  refine str_ext ?_
  unfold cutS unslash
  cases h : slash z with
  | false =>
    simp only [Bool.false_eq_true, if_false]
    show ((z.cps.toList.drop (HT.sIx z.length 0 (some ((0 : Nat) : Int)))).take (HT.sIx z.length z.length none - HT.sIx z.length 0 (some ((0 : Nat) : Int)))).toArray.toList = _
    rw [HT.sIx_nat, HT.sIx_none, Nat.zero_min]
    simp [str_len, List.take_of_length_le]
  | true =>
    simp only [if_true]
    show ((z.cps.toList.drop (HT.sIx z.length 0 (some ((1 : Nat) : Int)))).take (HT.sIx z.length z.length none - HT.sIx z.length 0 (some ((1 : Nat) : Int)))).toArray.toList = _
    rw [HT.sIx_nat, HT.sIx_none]
    have ne : 1 ≤ z.length := by
      have q := of_decide_eq_true h
      rw [str_len]
      cases e : z.cps.toList with
      | nil => rw [e] at q; cases q
      | cons c r => simp
    rw [show min 1 z.length = 1 by omega]
    simp [str_len, take_tail]
/-- z[:1] == '/' -/
theorem first_slash (z : Str) : decide (cutS z none (some 1) = (Str.ofString "/")) = slash z := by
  rw [code_slash]
  unfold slash
  refine decide_eq_decide.mpr ?_
  have e : (cutS z none (some 1)).cps.toList = z.cps.toList.take 1 := by
    unfold cutS
    show ((z.cps.toList.drop (HT.sIx z.length 0 none)).take (HT.sIx z.length z.length (some ((1 : Nat) : Int)) - HT.sIx z.length 0 none)).toArray.toList = _
    rw [HT.sIx_nat, HT.sIx_none, str_len]
    cases z.cps.toList <;> simp
  constructor
  · intro q
    rw [q] at e
    cases h : z.cps.toList with
    | nil => rw [h] at e; simp at e
    | cons c r => rw [h] at e; simpa using e.symm
  · intro q
    refine str_ext ?_
    rw [e]
    cases h : z.cps.toList with
    | nil => rw [h] at q; cases q
    | cons c r => rw [h] at q; simpa using q
theorem unslash_short (z : Str) : (unslash z).length ≤ z.length := by
  rw [str_len, str_len]
  show (z.cps.toList.drop _).length ≤ _
  rw [List.length_drop]
  omega
theorem sub_codes (x : Str) (i j : Nat) : ∀ c ∈ (Builtin.Str.strSub x i j).cps.toList, c ∈ x.cps.toList := by
  intro c h
  have e : (Builtin.Str.strSub x i j).cps.toList = (x.cps.toList.drop i).take (j - i) := by simp [Builtin.Str.strSub]
  rw [e] at h
  exact List.mem_of_mem_drop (List.mem_of_mem_take h)
theorem parts_codes (x : Str) (w : Nat) : ∀ (cuts : List Nat) (a : Nat), ∀ p ∈ StrLaws.partsFrom x w a cuts, ∀ c ∈ p.cps.toList, c ∈ x.cps.toList
  | [], a, p, h => by
    rw [show p = Builtin.Str.strSub x a x.length by simpa [StrLaws.partsFrom] using h]
    exact sub_codes x a x.length
  | c :: r, a, p, h => by
    rcases List.mem_cons.mp (show p ∈ Builtin.Str.strSub x a c :: StrLaws.partsFrom x w (c + w) r from h) with e | e
    · rw [e]; exact sub_codes x a c
    · exact parts_codes x w r _ p e
theorem split_codes (x y : Str) : ∀ p ∈ Txt.split x y, ∀ c ∈ p.cps.toList, c ∈ x.cps.toList := by
  intro p h
  unfold Txt.split at h
  split at h
  · rw [show p = x by simpa using h]; exact fun _ h => h
  · split at h
    · rw [show p = x by simpa using h]; exact fun _ h => h
    · rw [StrLaws.partsBetween_eq] at h
      exact parts_codes x _ _ _ p h
theorem unslash_codes (z : Str) : ∀ c ∈ (unslash z).cps.toList, c ∈ z.cps.toList := fun c h => List.mem_of_mem_drop (show c ∈ z.cps.toList.drop _ from h)
end Hv
end

section
namespace Hv
open PySem PySem.Spec PyProof.Rows L2
/-- what is walked gives these items, whatever comes beside what is tracked at H1 -/
structure Gives (J : It) (H1 : Hp) (items : List V) : Prop where
  go : ∀ i H, Same H1 H → i < items.length → J.go i H
  yld : ∀ i H x H', Same H1 H → J.yld i H x H' → i < items.length → H' = H ∧ items[i]? = some x
  stop : ∀ H, Same H1 H → J.stop items.length H
theorem gives_list {K : PySem.W.Frag} {H : Hp} {a : Addr} {xs : List V} (h : SqL K H a xs) : Hv.Gives (Itl K a) H xs where
  go := fun i H' s lt => ⟨xs, xs[i], s.seq h, by simp [lt]⟩
  yld := fun i H' x H'' s y lt => ⟨y.1, y.2 xs (s.seq h)⟩
  stop := fun H' s => ⟨xs, s.seq h, Nat.le_refl _⟩
theorem same_tup {K : PySem.W.Frag} {H H' : Hp} {a : Addr} {xs : List V} (e : Same H H') (h : SqT K H a xs) : SqT K H' a xs := by
  rcases h with (h | ⟨o, h⟩) | h
  · exact Or.inl (Or.inl (e _ _ h))
  · exact Or.inl (Or.inr ⟨o, e _ _ h⟩)
  · exact Or.inr h
theorem gives_tup {K : PySem.W.Frag} {H : Hp} {a : Addr} {xs : List V} (h : SqT K H a xs) : Hv.Gives (Itt K a) H xs where
  go := fun i H' s lt => ⟨xs, xs[i], same_tup s h, by simp [lt]⟩
  yld := fun i H' x H'' s y lt => ⟨y.1, y.2 xs (same_tup s h)⟩
  stop := fun H' s => ⟨xs, same_tup s h, Nat.le_refl _⟩
theorem gives_rng {H : Hp} {lo : Int} {n : Nat} : Hv.Gives (Itr lo n) H ((List.range n).map fun (i : Nat) => V.int (lo + (i : Int))) where
  go := fun i H' s lt => by show i < n; simpa using lt
  yld := fun i H' x H'' s y lt => ⟨y.1, by rw [y.2]; simp at lt; simp [lt]⟩
  stop := fun H' s => by show n ≤ _; simp
theorem gives_text {H : Hp} {z : Str} : Hv.Gives (Its z) H (z.cps.toList.map fun c => V.str ⟨#[c]⟩) where
  go := fun i H' s lt => by show i < z.cps.size; simpa using lt
  yld := fun i H' x H'' s y lt => by
    obtain ⟨e, c, hc, rfl⟩ := y
    refine ⟨e, ?_⟩
    rw [List.getElem?_map, show z.cps.toList[i]? = some c by simpa using hc]; rfl
  stop := fun H' s => by show z.cps.size ≤ _; simp
/-- a comprehension: of each item f's value, or it is left out -/
theorem lc_any {J : It} {items : List V} {f : V → Option V} {g : TG} {tt : TT} {te : TE} {vs : List Nat} {σ : L2.St} {H1 : Hp} {D : Addr} {Qd : Hp → Prop}
    (gives : Hv.Gives J H1 items) (new : H1 D = none) (short : items.length ≤ sizeLine)
    (turn : ∀ (x : V) (H : Hp) (Post : Bool → V → Hp → Prop), x ∈ items → Same H1 H →
      (∀ y H4, f x = some y → Same H H4 → Post true y H4) → (∀ H4, f x = none → Same H H4 → Post false .non H4) →
      g x (wipe σ vs) H fun σ2 H2 => wipe σ2 vs = wipe σ vs ∧ tt σ2 H2 fun b H3 => if b = true then te σ2 H3 fun y H4 => Post true y H4 else Post false .non H3)
    (done : ∀ H, Same H1 H → H D = some (.lst (items.filterMap f)) → Qd H) :
    ∃ W : Nat → Nat → Hp → Prop, (∃ m, W 0 m (upd H1 D (.lst []))) ∧ ∀ i m H, W i m H →
      (J.stop i H ∧ Qd H) ∨ (J.go i H ∧ ∃ Nx : Hp → Prop, (∀ H', Nx H' → ∃ m', m' < m ∧ W (i + 1) m' H') ∧ ∀ v H', J.yld i H v H' → g v (wipe σ vs) H' fun σ2 H2 => wipe σ2 vs = wipe σ vs ∧ tt σ2 H2 fun b H3 =>
        if b = true then te σ2 H3 fun y H4 => ∃ acc, H4 D = some (.lst acc) ∧ acc.length < sizeLine ∧ Nx (upd H4 D (.lst (acc ++ [y]))) else Nx H3) := by
  refine ⟨fun i m H => m = items.length - i ∧ i ≤ items.length ∧ Same H1 H ∧ H D = some (.lst ((items.take i).filterMap f)), ⟨_, rfl, Nat.zero_le _, same_new new, upd_same⟩, ?_⟩
  rintro i m H ⟨rfl, hi, sm, at_D⟩
  by_cases lt : i < items.length
  · refine .inr ⟨gives.go i H sm lt, fun H => Same H1 H ∧ H D = some (.lst ((items.take (i + 1)).filterMap f)), fun H' q => ⟨_, by omega, rfl, lt, q⟩, ?_⟩
    intro v H' y
    obtain ⟨rfl, hv⟩ := gives.yld i H v H' sm y lt
    have step : (items.take (i + 1)).filterMap f = (items.take i).filterMap f ++ (match f v with | some y => [y] | none => []) := by
      rw [List.take_add_one, hv, Option.toList_some, List.filterMap_append]
      cases e : f v <;> simp [List.filterMap, e]
    have small : ((items.take i).filterMap f).length < sizeLine := by
      refine Nat.lt_of_le_of_lt (List.length_filterMap_le _ _) (Nat.lt_of_lt_of_le ?_ short)
      rw [List.length_take]
      omega
    refine turn v H' (fun b y H4 => if b = true then ∃ acc, H4 D = some (.lst acc) ∧ acc.length < sizeLine ∧ (Same H1 (upd H4 D (.lst (acc ++ [y]))) ∧ upd H4 D (.lst (acc ++ [y])) D = some (.lst ((items.take (i + 1)).filterMap f))) else (Same H1 H4 ∧ H4 D = some (.lst ((items.take (i + 1)).filterMap f)))) (List.mem_of_getElem? hv) sm ?_ ?_
    · intro y H4 e k
      rw [if_pos rfl]
      refine ⟨_, k _ _ at_D, small, same_put (sm.trans k) new, ?_⟩
      rw [upd_same, step, e]
    · intro H4 e k
      rw [if_neg (by decide)]
      refine ⟨sm.trans k, ?_⟩
      rw [k _ _ at_D, step, e, List.append_nil]
  · have e : i = items.length := by omega
    subst e
    refine .inl ⟨gives.stop H sm, done H sm ?_⟩
    rw [at_D, List.take_of_length_le (Nat.le_refl _)]
theorem pi_or {X : Cx} {tg e : Expr} {w1 w2 : TI} (h1 : PI X tg e w1) (h2 : PI X tg e w2) : PI X tg e (fun σ H R => w1 σ H R ∨ w2 σ H R) := by
  constructor
  intro pins s σ H R I h
  exact h.elim (h1.run pins s σ H R I) (h2.run pins s σ H R I)

end Hv
end

section
/-! Lists of texts beside the empty list. -/
namespace Hv
open PySem PySem.Spec PyProof.Rows L2
def Tx (n : Nat) (z : Str) : Prop := z.cps.size ≤ n ∧ ∀ c ∈ z.cps.toList, c < 128
theorem Tx.ok {n : Nat} {z : Str} (h : Tx n z) : PyData.strOk z = true := by
  unfold PyData.strOk
  rw [← Array.all_toList, List.all_eq_true]
  intro c hc
  have := h.2 c hc
  exact decide_eq_true (by omega)
theorem Tx.up {n m : Nat} {z : Str} (h : Tx n z) (le : n ≤ m) : Tx m z := ⟨Nat.le_trans h.1 le, h.2⟩
theorem dp_strs {K : PySem.W.Frag} {H : Hp} : ∀ zs : List Str, DpAll K H (zs.map V.str) (zs.map PyData.str)
  | [] => .nil
  | z :: r => .cons (.str z) (dp_strs r)
theorem lay_strs : ∀ zs : List Str, (∀ z ∈ zs, PyData.strOk z = true) → PyData.canLayAll0 (zs.map PyData.str) = true
  | [], _ => by simp only [List.map_nil, PyData.canLayAll0]
  | z :: r, h => by
    simp only [List.map_cons, PyData.canLayAll0, PyData.canLay0, Bool.and_eq_true]
    exact ⟨h z (List.mem_cons_self ..), lay_strs r fun y hy => h y (List.mem_cons_of_mem _ hy)⟩
theorem deep_strs : ∀ zs : List Str, PyData.depthAll (zs.map PyData.str) = 0
  | [] => by simp only [List.map_nil, PyData.depthAll]
  | z :: r => by simp only [List.map_cons, PyData.depthAll, PyData.depth, deep_strs r]; rfl
theorem shaped_strs {zs : List Str} (h : ∀ z ∈ zs, PyData.strOk z = true) : SeqAt.shaped (.list (zs.map PyData.str)) = true := by
  unfold SeqAt.shaped
  rw [Bool.and_eq_true]
  refine ⟨by simp only [PyData.canLay0]; exact lay_strs zs h, decide_eq_true ?_⟩
  simp only [PyData.depth, deep_strs]
  decide
theorem shaped_nil : SeqAt.shaped (.list []) = true := shaped_strs (zs := []) (fun _ h => nomatch h)
theorem eqv_nil (zs : List Str) : PyData.eqv (.list (zs.map PyData.str)) (.list []) = zs.isEmpty := by
  cases zs with
  | nil => simp only [List.map_nil, PyData.eqv, PyData.eqvAll, List.isEmpty_nil]
  | cons z r => simp only [List.map_cons, PyData.eqv, PyData.eqvAll, List.isEmpty_cons]
/-- a list of texts == [] -/
theorem eq_nil_of {K : PySem.W.Frag} {H : Hp} {Q : VK} {p q : Addr} {zs : List Str} (hp : SqL K H p (zs.map V.str)) (hq : SqL K H q []) (ok : ∀ z ∈ zs, PyData.strOk z = true) (h : Q (.bl zs.isEmpty) H) :
    rEqD K (.ref p) (.ref q) H Q :=
  ⟨.list (zs.map PyData.str), .list [], .lst hp (dp_strs zs), .lst hq .nil, shaped_strs ok, shaped_nil, by rw [eqv_nil]; exact h⟩
theorem ne_nil_of {K : PySem.W.Frag} {H : Hp} {Q : VK} {p q : Addr} {zs : List Str} (hp : SqL K H p (zs.map V.str)) (hq : SqL K H q []) (ok : ∀ z ∈ zs, PyData.strOk z = true) (h : Q (.bl (!zs.isEmpty)) H) :
    rNeD K (.ref p) (.ref q) H Q :=
  ⟨.list (zs.map PyData.str), .list [], .lst hp (dp_strs zs), .lst hq .nil, shaped_strs ok, shaped_nil, by rw [eqv_nil]; exact h⟩
theorem hu_of' {A : Around} {k : Nat} (hr : Room k A) : A.units + 64 < cLine := by have := hr.un; omega
theorem hu_rep {A : Around} {k : Nat} (hr : Room k A) : A.units + 70 < cLine := by have := hr.un; omega
theorem small_mem (c : Nat) : decide (c ∈ (Str.ofString "abcdefghijklmnopqrstuvwxyz").cps.toList) = (decide (97 ≤ c) && decide (c ≤ 122)) := by
  have e : (Str.ofString "abcdefghijklmnopqrstuvwxyz").cps.toList = (List.range 26).map (97 + ·) := by decide +kernel
  rw [e, Bool.eq_iff_iff, decide_eq_true_iff, Bool.and_eq_true, decide_eq_true_iff, decide_eq_true_iff, List.mem_map]
  constructor
  · rintro ⟨i, hi, rfl⟩
    have := List.mem_range.mp hi
    omega
  · rintro ⟨h1, h2⟩
    exact ⟨c - 97, List.mem_range.mpr (by omega), by omega⟩
theorem op_mulS {X : Cx} : OpR X (binaryOp .Mult) (fun x y H Q => ∃ (z : Str) (n : Int), x = .str z ∧ y = .int n ∧ PySem.MulOk z n ∧ Q (.str (Txt.mul z n)) H) := by
  intro pins s σ H x y v u Q I rx ry h
  obtain ⟨z, n, rfl, rfl, ok, q⟩ := h
  obtain ⟨t, rfl⟩ := rx
  obtain ⟨t', rfl⟩ := ry
  exact PySem.SB.mul ok fun t' k => ⟨.str _, H, I.tok k, ⟨t', rfl⟩, q⟩
/-- an item of a written list of texts -/
theorem item_strs {zs : List Str} {r : Int} (h0 : 0 ≤ r) (h1 : r < (zs.length : Int)) : ∃ z ∈ zs, atI (zs.map V.str) r = some (.str z) := by
  obtain ⟨n, rfl⟩ := Int.eq_ofNat_of_zero_le h0
  have lt : n < zs.length := by omega
  refine ⟨zs[n], List.getElem_mem lt, ?_⟩
  exact atI_nat (by rw [List.getElem?_map, List.getElem?_eq_getElem lt]; rfl)
/-- what repr tells of three truths -/
theorem rep3 (a b c : Bool) : (PyData.list [.bool a, .bool b, .bool c]).showable = true ∧ (PyData.list [.bool a, .bool b, .bool c]).hasDict = false ∧
    (PyData.list [.bool a, .bool b, .bool c]).depth ≤ 60 ∧ (PyData.list [.bool a, .bool b, .bool c]).shown.length ≤ sizeLine := by
  cases a <;> cases b <;> cases c <;> exact ⟨by decide +kernel, by decide +kernel, by decide +kernel, by decide +kernel⟩
theorem item_any {xs : List V} {r : Int} (h0 : 0 ≤ r) (h1 : r < (xs.length : Int)) : ∃ v ∈ xs, atI xs r = some v := by
  obtain ⟨n, rfl⟩ := Int.eq_ofNat_of_zero_le h0
  have lt : n < xs.length := by omega
  exact ⟨xs[n], List.getElem_mem lt, atI_nat (by rw [List.getElem?_eq_getElem lt])⟩
end Hv
end

section
/-! Data of any kind, an empty dict too: its kind, its repr, its items. -/
namespace Hv
open PySem PySem.Spec PyProof.Rows L2
inductive Th (K : PySem.W.Frag) (H : Hp) : V → PyData → Prop
  | d {v : V} {d : PyData} : Dp K H v d → Th K H v d
  | emp {a : Addr} : H a = some (.dK []) → Th K H (.ref a) (.dict [])
def okI (i : Int) : Bool := decide ((PyData.shown (.int i)).length ≤ 40) && decide (i.natAbs ≤ 10 ^ 30)
def okS (z : Str) : Bool := decide (z.cps.size ≤ 900) && z.cps.toList.all fun c => decide (c < 128)
mutual
def good : PyData → Bool
  | .none | .bool _ => true
  | .int i => okI i
  | .str z => okS z
  | .list xs | .tuple xs => goodAll xs
  | .dict _ => false
def goodAll : List PyData → Bool
  | [] => true
  | x :: xs => good x && goodAll xs
end
theorem goodAll_iff : ∀ xs : List PyData, goodAll xs = true ↔ ∀ x ∈ xs, good x = true
  | [] => by simp [goodAll]
  | x :: xs => by simp [goodAll, goodAll_iff xs]
theorem okS_tx {z : Str} (h : okS z = true) : Tx 900 z := by
  unfold okS at h
  rw [Bool.and_eq_true, decide_eq_true_iff, List.all_eq_true] at h
  exact ⟨h.1, fun c hc => of_decide_eq_true (h.2 c hc)⟩
mutual
theorem good_lay : ∀ d : PyData, good d = true → d.canLay0 = true ∧ d.showable = true ∧ d.leavesShort 40 = true
  | .none, _ => ⟨by simp only [PyData.canLay0], by simp only [PyData.showable], by simp only [PyData.leavesShort]⟩
  | .bool b, _ => ⟨by simp only [PyData.canLay0], by simp only [PyData.showable], by simp only [PyData.leavesShort]⟩
  | .int i, h => by
    have h' : okI i = true := by simpa only [good] using h
    unfold okI at h'
    rw [Bool.and_eq_true, decide_eq_true_iff, decide_eq_true_iff] at h'
    refine ⟨by simp only [PyData.canLay0], ?_, by simp only [PyData.leavesShort]; exact decide_eq_true h'.1⟩
    simp only [PyData.showable]
    refine decide_eq_true ?_
    by_cases z : i.natAbs = 0
    · rw [z]; decide
    · refine Nat.lt_of_lt_of_le ((Nat.log2_lt z).mpr (Nat.lt_of_le_of_lt h'.2 (show 10 ^ 30 < 2 ^ 100 by decide))) (by decide)
  | .str z, h => by
    have t := okS_tx (show okS z = true by simpa only [good] using h)
    refine ⟨by simp only [PyData.canLay0]; exact t.ok, by simp only [PyData.showable], ?_⟩
    simp only [PyData.leavesShort]
    rw [List.all_eq_true]
    intro c hc
    have := t.2 c hc
    exact decide_eq_true (Nat.lt_trans this (by decide))
  | .list xs, h => by
    have := good_layAll xs (by simpa only [good] using h)
    simpa only [PyData.canLay0, PyData.showable, PyData.leavesShort] using this
  | .tuple xs, h => by
    have := good_layAll xs (by simpa only [good] using h)
    simpa only [PyData.canLay0, PyData.showable, PyData.leavesShort] using this
  | .dict _, h => by simp [good] at h
theorem good_layAll : ∀ xs : List PyData, goodAll xs = true → PyData.canLayAll0 xs = true ∧ PyData.showableAll xs = true ∧ PyData.leavesShortAll 40 xs = true
  | [], _ => ⟨by simp only [PyData.canLayAll0], by simp only [PyData.showableAll], by simp only [PyData.leavesShortAll]⟩
  | x :: xs, h => by
    have h' : good x = true ∧ goodAll xs = true := by simpa only [goodAll, Bool.and_eq_true] using h
    obtain ⟨a1, a2, a3⟩ := good_lay x h'.1
    obtain ⟨b1, b2, b3⟩ := good_layAll xs h'.2
    simp only [PyData.canLayAll0, PyData.showableAll, PyData.leavesShortAll, Bool.and_eq_true]
    exact ⟨⟨a1, b1⟩, ⟨a2, b2⟩, ⟨a3, b3⟩⟩
end
theorem good_sz {d : PyData} (h : good d = true) (b : d.bulk ≤ 100000) : d.shown.length ≤ sizeLine := by
  have e := PyData.shown_le_bulk 40 (by decide) d (good_lay d h).2.2
  have e2 : (40 + 2) * d.bulk ≤ 42 * 100000 := Nat.mul_le_mul_left _ b
  rw [sizeLine_eq]
  omega
theorem good_shaped {d : PyData} (h : good d = true) (b : d.depth ≤ 64) : SeqAt.shaped d = true := by
  unfold SeqAt.shaped
  rw [(good_lay d h).1, decide_eq_true b]; rfl
def tyN : PyData → String
  | .none => "NoneType"
  | .bool _ => "bool"
  | .int _ => "int"
  | .str _ => "str"
  | .list _ => "list"
  | .tuple _ => "tuple"
  | .dict _ => "dict"
theorem sq_tyL {K : PySem.W.Frag} {H : Hp} {a : Addr} {xs : List V} (h : SqL K H a xs) : TyX K H (.ref a) (.type "list") := by
  rcases h with (h | ⟨o, h⟩) | ⟨o, its, n, h, c, _⟩
  · exact .base (.lst h)
  · exact .base (.frz h)
  · exact .kList h c
theorem sq_tyT {K : PySem.W.Frag} {H : Hp} {a : Addr} {xs : List V} (h : SqT K H a xs) : TyX K H (.ref a) (.type "tuple") := by
  rcases h with (h | ⟨o, h⟩) | ⟨o, its, n, h, c, _⟩
  · exact .base (.tup h)
  · exact .fTuple h
  · exact .kTuple h c
theorem Th.ty {K : PySem.W.Frag} {H : Hp} {v : V} {d : PyData} (h : Th K H v d) : TyX K H v (.type (tyN d)) := by
  cases h with
  | d h =>
    cases h with
    | non => exact .base .non
    | bl b => exact .base (.bl b)
    | int i => exact .base (.int i)
    | str x => exact .base (.str x)
    | lst s _ => exact sq_tyL s
    | tup s _ => exact sq_tyT s
  | emp h => exact .base (.dK h)
/-- isinstance(x, T) -/
theorem isi_th {K : PySem.W.Frag} {H : Hp} {x : V} {d : PyData} {T : String} {b : Bool} {Q : VK} (h : Th K H x d) (e : kitB (tyN d) T = some b) (q : Q (.bl b) H) : rIsi K [x, .ty T] H Q :=
  ⟨x, .ty T, _, _, b, rfl, .ty _, h.ty, kit_ty e, q⟩
def dStr : PyData → Option Str
  | .str z => some z
  | _ => none
def dTup : PyData → Bool
  | .tuple _ => true
  | _ => false
def dInt : PyData → Bool
  | .int _ => true
  | _ => false
def dBl : PyData → Bool
  | .bool _ => true
  | _ => false
theorem kit_str (d : PyData) : kitB (tyN d) "str" = some ((dStr d).isSome) := by
  cases d with
  | none => exact (show kitB "NoneType" "str" = some false by decide +kernel)
  | bool _ => exact (show kitB "bool" "str" = some false by decide +kernel)
  | int _ => exact (show kitB "int" "str" = some false by decide +kernel)
  | str _ => exact (show kitB "str" "str" = some true by decide +kernel)
  | list _ => exact (show kitB "list" "str" = some false by decide +kernel)
  | tuple _ => exact (show kitB "tuple" "str" = some false by decide +kernel)
  | dict _ => exact (show kitB "dict" "str" = some false by decide +kernel)
theorem kit_tup (d : PyData) : kitB (tyN d) "tuple" = some (dTup d) := by
  cases d with
  | none => exact (show kitB "NoneType" "tuple" = some false by decide +kernel)
  | bool _ => exact (show kitB "bool" "tuple" = some false by decide +kernel)
  | int _ => exact (show kitB "int" "tuple" = some false by decide +kernel)
  | str _ => exact (show kitB "str" "tuple" = some false by decide +kernel)
  | list _ => exact (show kitB "list" "tuple" = some false by decide +kernel)
  | tuple _ => exact (show kitB "tuple" "tuple" = some true by decide +kernel)
  | dict _ => exact (show kitB "dict" "tuple" = some false by decide +kernel)
theorem kit_int (d : PyData) : kitB (tyN d) "int" = some (dInt d || dBl d) := by
  cases d with
  | none => exact (show kitB "NoneType" "int" = some false by decide +kernel)
  | bool _ => exact (show kitB "bool" "int" = some true by decide +kernel)
  | int _ => exact (show kitB "int" "int" = some true by decide +kernel)
  | str _ => exact (show kitB "str" "int" = some false by decide +kernel)
  | list _ => exact (show kitB "list" "int" = some false by decide +kernel)
  | tuple _ => exact (show kitB "tuple" "int" = some false by decide +kernel)
  | dict _ => exact (show kitB "dict" "int" = some false by decide +kernel)
theorem kit_bl (d : PyData) : kitB (tyN d) "bool" = some (dBl d) := by
  cases d with
  | none => exact (show kitB "NoneType" "bool" = some false by decide +kernel)
  | bool _ => exact (show kitB "bool" "bool" = some true by decide +kernel)
  | int _ => exact (show kitB "int" "bool" = some false by decide +kernel)
  | str _ => exact (show kitB "str" "bool" = some false by decide +kernel)
  | list _ => exact (show kitB "list" "bool" = some false by decide +kernel)
  | tuple _ => exact (show kitB "tuple" "bool" = some false by decide +kernel)
  | dict _ => exact (show kitB "dict" "bool" = some false by decide +kernel)
theorem Th.kd {K : PySem.W.Frag} {H : Hp} {v : V} {d : PyData} (h : Th K H v d) : Kd K H v (dStr d) := by
  have t := h.ty
  have k := kit_ty (K := K) (kit_str d)
  cases d with
  | str z =>
    cases h with
    | d h => cases h; exact .str z
  | _ => exact .oth t k
mutual
theorem same_dp {K : PySem.W.Frag} {H H' : Hp} (s : Same H H') : ∀ (d : PyData) (v : V), Dp K H v d → Dp K H' v d
  | .none, _, h => by cases h; exact .non
  | .bool b, _, h => by cases h; exact .bl b
  | .int i, _, h => by cases h; exact .int i
  | .str z, _, h => by cases h; exact .str z
  | .list ds, _, h => by
    cases h with
    | lst q a => exact .lst (s.seq q) (same_dpAll s ds _ a)
  | .tuple ds, _, h => by
    cases h with
    | tup q a => exact .tup (same_tup s q) (same_dpAll s ds _ a)
  | .dict _, _, h => by cases h
theorem same_dpAll {K : PySem.W.Frag} {H H' : Hp} (s : Same H H') : ∀ (ds : List PyData) (vs : List V), DpAll K H vs ds → DpAll K H' vs ds
  | [], _, h => by cases h; exact .nil
  | d :: ds, _, h => by
    cases h with
    | cons a b => exact .cons (same_dp s d _ a) (same_dpAll s ds _ b)
end
theorem same_th {K : PySem.W.Frag} {H H' : Hp} {d : PyData} {v : V} (s : Same H H') (h : Th K H v d) : Th K H' v d := by
  cases h with
  | d h => exact .d (same_dp s _ _ h)
  | emp h => exact .emp (s _ _ h)
theorem dpAll_length {K : PySem.W.Frag} {H : Hp} : ∀ {xs : List V} {ds : List PyData}, DpAll K H xs ds → xs.length = ds.length
  | _, _, .nil => rfl
  | _, _, .cons _ b => by rw [List.length_cons, List.length_cons, dpAll_length b]
theorem dpAll_get {K : PySem.W.Frag} {H : Hp} : ∀ {xs : List V} {ds : List PyData} {i : Nat} {x : V}, DpAll K H xs ds → xs[i]? = some x → ∃ d, ds[i]? = some d ∧ Dp K H x d
  | _, _, _, _, .nil, e => nomatch e
  | _, _, 0, _, .cons a _, e => by cases e; exact ⟨_, rfl, a⟩
  | _, _, i + 1, _, .cons _ b, e => dpAll_get (i := i) b e
theorem dpAll_mem {K : PySem.W.Frag} {H : Hp} {xs : List V} {ds : List PyData} {x : V} (h : DpAll K H xs ds) (e : x ∈ xs) : ∃ d ∈ ds, Dp K H x d := by
  obtain ⟨i, hi⟩ := List.getElem?_of_mem e
  obtain ⟨d, a, b⟩ := dpAll_get h hi
  exact ⟨d, List.mem_of_getElem? a, b⟩
theorem dpAll_append {K : PySem.W.Frag} {H : Hp} : ∀ {xs ys : List V} {ds es : List PyData}, DpAll K H xs ds → DpAll K H ys es → DpAll K H (xs ++ ys) (ds ++ es)
  | _, _, _, _, .nil, h => h
  | _, _, _, _, .cons a b, h => .cons a (dpAll_append b h)
theorem dpAll_drop {K : PySem.W.Frag} {H : Hp} : ∀ {xs : List V} {ds : List PyData} (n : Nat), DpAll K H xs ds → DpAll K H (xs.drop n) (ds.drop n)
  | _, _, 0, h => h
  | _, _, _ + 1, .nil => .nil
  | _, _, n + 1, .cons _ b => dpAll_drop n b
theorem dpAll_take {K : PySem.W.Frag} {H : Hp} : ∀ {xs : List V} {ds : List PyData} (n : Nat), DpAll K H xs ds → DpAll K H (xs.take n) (ds.take n)
  | _, _, 0, _ => by rw [List.take_zero, List.take_zero]; exact .nil
  | _, _, _ + 1, .nil => .nil
  | _, _, n + 1, .cons a b => .cons a (dpAll_take n b)
theorem eqv_nilD (ds : List PyData) : PyData.eqv (.list ds) (.list []) = ds.isEmpty := by
  cases ds with
  | nil => simp only [PyData.eqv, PyData.eqvAll, List.isEmpty_nil]
  | cons z r => simp only [PyData.eqv, PyData.eqvAll, List.isEmpty_cons]
theorem shaped_nil' : SeqAt.shaped (.list []) = true := good_shaped (by simp [good, goodAll]) (by simp [PyData.depth, PyData.depthAll])
theorem eq_nilD {K : PySem.W.Frag} {H : Hp} {Q : VK} {p q : Addr} {xs : List V} {ds : List PyData} (hp : SqL K H p xs) (hd : DpAll K H xs ds) (hq : SqL K H q []) (ok : good (.list ds) = true) (dep : (PyData.list ds).depth ≤ 64) (h : Q (.bl ds.isEmpty) H) :
    rEqD K (.ref p) (.ref q) H Q :=
  ⟨.list ds, .list [], .lst hp hd, .lst hq .nil, good_shaped ok dep, shaped_nil', by rw [eqv_nilD]; exact h⟩
theorem ne_nilD {K : PySem.W.Frag} {H : Hp} {Q : VK} {p q : Addr} {xs : List V} {ds : List PyData} (hp : SqL K H p xs) (hd : DpAll K H xs ds) (hq : SqL K H q []) (ok : good (.list ds) = true) (dep : (PyData.list ds).depth ≤ 64) (h : Q (.bl (!ds.isEmpty)) H) :
    rNeD K (.ref p) (.ref q) H Q :=
  ⟨.list ds, .list [], .lst hp hd, .lst hq .nil, good_shaped ok dep, shaped_nil', by rw [eqv_nilD]; exact h⟩
theorem depthAll_le : ∀ (ds : List PyData) (n : Nat), (∀ d ∈ ds, d.depth ≤ n) → PyData.depthAll ds ≤ n
  | [], n, _ => by simp only [PyData.depthAll]; omega
  | d :: ds, n, h => by
    have a := h d (List.mem_cons_self ..)
    have b := depthAll_le ds n fun e he => h e (List.mem_cons_of_mem _ he)
    simp only [PyData.depthAll]
    omega
theorem depth_mem : ∀ {ds : List PyData} {d : PyData}, d ∈ ds → d.depth ≤ PyData.depthAll ds
  | e :: ds, d, h => by
    simp only [PyData.depthAll]
    rcases List.mem_cons.mp h with rfl | h
    · omega
    · have := depth_mem h; omega
theorem bulk_mem : ∀ {ds : List PyData} {d : PyData}, d ∈ ds → d.bulk ≤ PyData.bulkAll ds
  | e :: ds, d, h => by
    simp only [PyData.bulkAll]
    rcases List.mem_cons.mp h with rfl | h
    · omega
    · have := bulk_mem h; omega
theorem bulk_len : ∀ (ds : List PyData), ds.length ≤ PyData.bulkAll ds
  | [] => by simp only [PyData.bulkAll, List.length_nil]; omega
  | d :: ds => by
    have := bulk_len ds
    simp only [PyData.bulkAll, List.length_cons]; omega
section
variable {X : Cx}
/-- repr of anything -/
theorem call_reprTh (calm : X.A.guards = some []) (hu : X.A.units + 70 < cLine) : CallR X (.builtin "repr") (fun xs H Q => ∃ (x : V) (d : PyData),
    xs = [x] ∧ Th X.K H x d ∧ (d ≠ .dict [] → good d = true) ∧ d.depth ≤ 60 ∧ d.bulk ≤ 100000 ∧ Q (.str d.shown) H) := by
  intro pins s σ H xs us Q I r h
  obtain ⟨x, d, rfl, th, gd, dep, bk, q⟩ := h
  obtain ⟨u, rfl, ru⟩ := Vals.one r
  have fin : ∀ (h' : Heap) (tk : Nat) (n : Tok), (∀ b o, s.heap.get? b = some o → h'.get? b = some o) → EP X pins σ Q (.str d.shown n) { s with heap := h', toks := tk } := by
    intro h' tk n k
    exact ⟨.str d.shown, H, I.kept (t' := tk) k, ⟨_, rfl⟩, q⟩
  cases th with
  | emp e =>
    cases (show u = Value.ref _ from ru)
    obtain ⟨_, low, vs, kv, o, es, ep, h1, h2, h3, _, h5, _⟩ := dk_of I.hok e
    cases kv
    cases hes : es.toList with
    | cons a b => rw [hes] at h5; cases h5
    | nil =>
      have rd : Reads s.heap (.ref _) (.dict []) (_ :: [] ++ []) := Reads.dict h1 h2.1 h3 (by rw [hes]; exact .nil) (by rw [hes]; exact .nil)
      refine repr_of_reads' rd (by simp [PyData.showable, PyData.showableKv]) (fun _ m => ?_) calm (by omega) (fun _ _ e => e) ?_ (by rw [show (PyData.dict []).shown = Str.ofString "{}" by decide +kernel]; decide +kernel)
      · simp at m
        rw [← m] at low
        simp at low
      · intro h' tk n k
        exact fin h' n tk k
  | d dp =>
    have g : good d = true := by
      refine gd fun e => ?_
      subst e
      cases dp
    obtain ⟨c1, c2, c3⟩ := good_lay d g
    have refs : ∀ a, u = .ref a → wpAny (model X.prog X.w) X.A (call (.builtin "repr") [u]) (EP X pins σ Q) X.xe s := by
      rintro a rfl
      obtain ⟨as, rd⟩ := Dp.reads I d _ _ dp ru
      exact repr_of_reads' rd c2 (fun z => by rw [PyData.hasDict_of_canLay d c1] at z; cases z) calm (by omega) (fun _ _ e => e) (fun h' tk n k => fin h' n tk k) (good_sz g bk)
    cases dp with
    | non => cases ru; exact PySem.P.repr_of_none (fin _ _ _ fun _ _ e => e)
    | bl b => cases ru; exact PySem.P.repr_of_bool (by have := fin s.heap (s.toks + 1) s.toks fun _ _ e => e; cases b <;> exact this)
    | int i =>
      obtain ⟨t, rfl⟩ := ru
      refine PySem.P.repr_of_int (by simpa [PyData.showable] using c2) ?_
      exact fin s.heap (s.toks + 1) s.toks fun _ _ e => e
    | str z =>
      obtain ⟨t, rfl⟩ := ru
      refine PySem.P.repr_of_str ?_ ?_
      · exact fin s.heap (s.toks + 1) s.toks fun _ _ e => e
      · have := good_sz g bk
        simpa [PyData.shown] using this
    | lst _ _ => exact refs _ ru
    | tup _ _ => exact refs _ ru
end
end Hv
end

section
/-! Walks of pairs, dicts of the text asked with None. -/
namespace Hv
open PySem PySem.Spec PyProof.Rows L2
structure GivesR {α : Type} (J : It) (H1 : Hp) (items : List α) (R : α → V → Hp → Prop) : Prop where
  go : ∀ i H, Same H1 H → i < items.length → J.go i H
  yld : ∀ i H x H', Same H1 H → J.yld i H x H' → i < items.length → Same H H' ∧ ∃ y, items[i]? = some y ∧ R y x H'
  stop : ∀ H, Same H1 H → J.stop items.length H
theorem gives_zipT {K : PySem.W.Frag} {H : Hp} {a b : Addr} {xs ys : List V} (ha : SqT K H a xs) (hb : SqT K H b ys) (hl : xs.length = ys.length) :
    Hv.GivesR (RZ.ItzT K a b) H (xs.zip ys) (fun p v H' => ∃ T, v = .ref T ∧ H' T = some (.tup [p.1, p.2])) where
  go := fun i H' s lt => by
    rw [List.length_zip, hl, Nat.min_self] at lt
    exact ⟨xs, ys, xs[i]'(by omega), ys[i], same_tup s ha, same_tup s hb, by simp [show i < xs.length by omega], by simp [lt]⟩
  yld := fun i H' x H'' s y lt => by
    obtain ⟨T, u, v, rfl, nT, rfl, e1, e2⟩ := y
    have e1' := e1 xs (same_tup s ha)
    have e2' := e2 ys (same_tup s hb)
    exact ⟨same_new nT, (u, v), List.getElem?_zip_eq_some.mpr ⟨e1', e2'⟩, T, rfl, upd_same⟩
  stop := fun H' s => ⟨xs, ys, same_tup s ha, same_tup s hb, .inl (by rw [List.length_zip]; omega)⟩
theorem gives_of {J : It} {H1 : Hp} {items : List V} (g : Hv.Gives J H1 items) : Hv.GivesR J H1 items (fun y x _ => x = y) where
  go := g.go
  yld := fun i H x H' s y lt => by
    obtain ⟨rfl, e⟩ := g.yld i H x H' s y lt
    exact ⟨Same.refl _, x, e, rfl⟩
  stop := g.stop
/-- a comprehension: of each item f's value, or it is left out -/
theorem lc_rel {α : Type} {J : It} {items : List α} {R : α → V → Hp → Prop} {f : α → Option V} {g : TG} {tt : TT} {te : TE} {vs : List Nat} {σ : L2.St} {H1 : Hp} {D : Addr} {Qd : Hp → Prop}
    (gives : Hv.GivesR J H1 items R) (new : H1 D = none) (short : items.length ≤ sizeLine)
    (turn : ∀ (y : α) (x : V) (H : Hp) (Post : Bool → V → Hp → Prop), y ∈ items → R y x H → Same H1 H →
      (∀ z H4, f y = some z → Same H H4 → Post true z H4) → (∀ H4, f y = none → Same H H4 → Post false .non H4) →
      g x (wipe σ vs) H fun σ2 H2 => wipe σ2 vs = wipe σ vs ∧ tt σ2 H2 fun b H3 => if b = true then te σ2 H3 fun y H4 => Post true y H4 else Post false .non H3)
    (done : ∀ H, Same H1 H → H D = some (.lst (items.filterMap f)) → Qd H) :
    ∃ W : Nat → Nat → Hp → Prop, (∃ m, W 0 m (upd H1 D (.lst []))) ∧ ∀ i m H, W i m H →
      (J.stop i H ∧ Qd H) ∨ (J.go i H ∧ ∃ Nx : Hp → Prop, (∀ H', Nx H' → ∃ m', m' < m ∧ W (i + 1) m' H') ∧ ∀ v H', J.yld i H v H' → g v (wipe σ vs) H' fun σ2 H2 => wipe σ2 vs = wipe σ vs ∧ tt σ2 H2 fun b H3 =>
        if b = true then te σ2 H3 fun y H4 => ∃ acc, H4 D = some (.lst acc) ∧ acc.length < sizeLine ∧ Nx (upd H4 D (.lst (acc ++ [y]))) else Nx H3) := by
  refine ⟨fun i m H => m = items.length - i ∧ i ≤ items.length ∧ Same H1 H ∧ H D = some (.lst ((items.take i).filterMap f)), ⟨_, rfl, Nat.zero_le _, same_new new, upd_same⟩, ?_⟩
  rintro i m H ⟨rfl, hi, sm, at_D⟩
  by_cases lt : i < items.length
  · refine .inr ⟨gives.go i H sm lt, fun H => Same H1 H ∧ H D = some (.lst ((items.take (i + 1)).filterMap f)), fun H' q => ⟨_, by omega, rfl, lt, q⟩, ?_⟩
    intro v H' y
    obtain ⟨s2, w, hv, hR⟩ := gives.yld i H v H' sm y lt
    have step : (items.take (i + 1)).filterMap f = (items.take i).filterMap f ++ (match f w with | some y => [y] | none => []) := by
      rw [List.take_add_one, hv, Option.toList_some, List.filterMap_append]
      cases e : f w <;> simp [List.filterMap, e]
    have small : ((items.take i).filterMap f).length < sizeLine := by
      refine Nat.lt_of_le_of_lt (List.length_filterMap_le _ _) (Nat.lt_of_lt_of_le ?_ short)
      rw [List.length_take]
      omega
    have at_D' := s2 _ _ at_D
    refine turn w v H' (fun b y H4 => if b = true then ∃ acc, H4 D = some (.lst acc) ∧ acc.length < sizeLine ∧ (Same H1 (upd H4 D (.lst (acc ++ [y]))) ∧ upd H4 D (.lst (acc ++ [y])) D = some (.lst ((items.take (i + 1)).filterMap f))) else (Same H1 H4 ∧ H4 D = some (.lst ((items.take (i + 1)).filterMap f)))) (List.mem_of_getElem? hv) hR (sm.trans s2) ?_ ?_
    · intro y H4 e k
      rw [if_pos rfl]
      refine ⟨_, k _ _ at_D', small, same_put ((sm.trans s2).trans k) new, ?_⟩
      rw [upd_same, step, e]
    · intro H4 e k
      rw [if_neg (by decide)]
      refine ⟨(sm.trans s2).trans k, ?_⟩
      rw [k _ _ at_D', step, e, List.append_nil]
  · have e : i = items.length := by omega
    subst e
    refine .inl ⟨gives.stop H sm, done H sm ?_⟩
    rw [at_D, List.take_of_length_le (Nat.le_refl _)]
/-- a dict of the text, asked with a text or None -/
structure TabK (K : PySem.W.Frag) (w : World) (d : Addr) (es : Array DictEntry) (n : Nat) : Prop where
  at_ : K.lookup d = some ⟨.type "dict", none, .dict es n, #[]⟩
  lit : PySem.W.KeysLit w.params es.toList
  low : (d == sysModules) = false
section
variable {X : Cx} {d : Addr} {es : Array DictEntry} {n : Nat}
theorem op_notIn_tab (D : TabK X.K X.w d es n) : OpR X (compareOp .NotIn) (fun x y H Q => y = .ref d ∧ ((x = .non ∧ Q (.bl true) H) ∨ ∃ z, x = .str z ∧ Q (.bl (!(findBy Value.isStrOf es z).isSome)) H)) := by
  intro pins s σ H x y v u Q I rx ry h
  obtain ⟨rfl, h⟩ := h
  cases ry
  rcases h with ⟨rfl, q⟩ | ⟨z, rfl, q⟩
  · cases rx
    have m : s.heap.MapOf (noneKind X.prog X.w) d (fun k => findBy (noneKind X.prog X.w).is es k) := ⟨_, es, n, I.kIn _ _ D.at_, ⟨rfl, rfl, rfl⟩, rfl, fun e he => by
      obtain ⟨x, t, e1, e2⟩ := D.lit.all e (Array.mem_toList_iff.mpr he)
      refine ⟨some (.inr x), ?_, e2⟩
      rw [e1]
      show (x == x) = true
      simp, fun _ => rfl⟩
    refine wpAny_notIn_of (show (noneKind X.prog X.w).is none .none = true from rfl) D.low m ?_
    have q0 : findBy (noneKind X.prog X.w).is es none = none := by
      unfold findBy
      rw [show (es.find? fun e => (noneKind X.prog X.w).is none e.key) = none from ?_]; rfl
      rw [Array.find?_eq_none]
      intro e he hq
      obtain ⟨x, t, e1, _⟩ := D.lit.all e (Array.mem_toList_iff.mpr he)
      rw [nk_none hq] at e1
      cases e1
    rw [q0]
    exact ⟨.bl true, H, I.tok _, rfl, q⟩
  · obtain ⟨t, rfl⟩ := rx
    refine wpAny_notIn_of (PySem.strKind_is X.prog X.w z t) D.low (PySem.W.mapOf_K (prog := X.prog) I.kIn D.at_ D.lit) ?_
    exact ⟨.bl _, H, I.tok _, rfl, q⟩
theorem ix_tab (D : TabK X.K X.w d es n) : IxR X (fun x y H Q => ∃ (z : Str) (u0 : Value) (v0 : V), x = .ref d ∧ y = .str z ∧ findBy Value.isStrOf es z = some u0 ∧ RelV v0 u0 ∧ Q v0 H) := by
  intro value slice pins s σ H x y v u Q I rx ry h hs
  obtain ⟨z, u0, v0, rfl, rfl, e, r, q⟩ := h
  obtain rfl : v = Value.ref d := rx
  obtain ⟨t, rfl⟩ := ry
  have hm := PySem.W.mapOf_K (prog := X.prog) (w := X.w) I.kIn D.at_ D.lit
  exact tail_any hm.typeIs slot_dict_getitem.lookup (wpAny_getItem_of (strKind_is X.prog X.w z t) hm e ⟨v0, H, I.tok _, r, q⟩) hs
end
theorem th_tup {K : PySem.W.Frag} {H : Hp} {x : V} {ds : List PyData} (h : Th K H x (.tuple ds)) : ∃ a xs, x = .ref a ∧ SqT K H a xs ∧ DpAll K H xs ds := by
  cases h with
  | d h =>
    cases h with
    | tup q a => exact ⟨_, _, rfl, q, a⟩
/-- data of a size that all can bear -/
structure Ok (d : PyData) : Prop where
  good : d ≠ .dict [] → good d = true
  deep : d.depth ≤ 50
  bulk : d.bulk ≤ 90000
theorem Ok.item {ds : List PyData} {d : PyData} (h : Ok (.tuple ds)) (m : d ∈ ds) : Ok d := by
  have a := h.good (fun e => nomatch e)
  have b := h.deep
  have c := h.bulk
  simp only [Hv.good] at a
  simp only [PyData.depth] at b
  simp only [PyData.bulk] at c
  exact ⟨fun _ => (goodAll_iff ds).mp a d m, Nat.le_trans (depth_mem m) (by omega), Nat.le_trans (bulk_mem m) c⟩
theorem Ok.len {ds : List PyData} (h : Ok (.tuple ds)) : ds.length ≤ 90000 := by
  have c := h.bulk
  simp only [PyData.bulk] at c
  exact Nat.le_trans (bulk_len ds) c
theorem Ok.tx {d : PyData} (h : Ok d) : ∀ z, dStr d = some z → Tx 900 z := by
  intro z e
  cases d with
  | str y =>
    cases e
    have a := h.good (fun e => nomatch e)
    simp only [Hv.good] at a
    exact okS_tx a
  | _ => cases e
theorem Ok.sz {d : PyData} (h : Ok d) : ∀ z, dStr d = some z → z.cps.size ≤ 1000 := fun z e => Nat.le_trans (h.tx z e).1 (by decide)
theorem newG {H H' : Hp} {p : Addr} {o : HO} (hG : upd H p o = H') (np : H p = none) : Same H H' ∧ H' p = some o := by
  subst hG
  exact ⟨same_new np, upd_same⟩
/-- a def that tells a truth of anything -/
def spD (K : PySem.W.Frag) (g : PyData → Bool) : Sp := fun vs H Q _ => ∃ (x : V) (d : PyData), vs = [x] ∧ Th K H x d ∧ Ok d ∧ ∀ H', Same H H' → Q (.bl (g d)) H'
end Hv
end

section
/-! Lists with empty dicts among their things: repr. A list must be known to be another object than sys.modules. -/
namespace Hv
open PySem PySem.Spec PyProof.Rows L2
mutual
inductive Dn (K : PySem.W.Frag) (H : Hp) : V → PyData → Prop
  | non : Dn K H .non .none
  | bl (b : Bool) : Dn K H (.bl b) (.bool b)
  | int (i : Int) : Dn K H (.int i) (.int i)
  | str (x : Str) : Dn K H (.str x) (.str x)
  | lst {a : Addr} {xs : List V} {ds : List PyData} : SqL K H a xs → a ≠ sysModules → DnAll K H xs ds → Dn K H (.ref a) (.list ds)
  | tup {a : Addr} {xs : List V} {ds : List PyData} : SqT K H a xs → DnAll K H xs ds → Dn K H (.ref a) (.tuple ds)
  | emp {a : Addr} : H a = some (.dK []) → Dn K H (.ref a) (.dict [])
inductive DnAll (K : PySem.W.Frag) (H : Hp) : List V → List PyData → Prop
  | nil : DnAll K H [] []
  | cons {v : V} {vs : List V} {d : PyData} {ds : List PyData} : Dn K H v d → DnAll K H vs ds → DnAll K H (v :: vs) (d :: ds)
end
section
variable {X : Cx} {pins : List (Addr × Obj)} {σ : L2.St} {H : Hp} {s : Shared}
mutual
theorem dn_reads (I : Inv X pins σ H s) : ∀ (d : PyData) (v : V) (u : Value), Dn X.K H v d → RelV v u → ∃ as, Reads s.heap u d as ∧ sysModules ∉ as
  | .none, _, _, h, r => by
    cases h; cases r
    exact ⟨_, .none, by simp⟩
  | .bool b, _, _, h, r => by
    cases h; cases r
    exact ⟨_, .bool b, by simp⟩
  | .int i, _, _, h, r => by
    cases h
    obtain ⟨t, rfl⟩ := r
    exact ⟨_, .int i t, by simp⟩
  | .str x, _, _, h, r => by
    cases h
    obtain ⟨t, rfl⟩ := r
    exact ⟨_, .str x t, by simp⟩
  | .list ds, _, _, h, r => by
    cases h with
    | lst q ne all =>
      cases r
      obtain ⟨its, rv, ⟨o, n, e1, e2, _, e3⟩, _⟩ := I.list q
      obtain ⟨as, rd, no⟩ := dn_readsAll I ds _ its all rv
      refine ⟨_, .list e1 e2 e3 rd, fun m => ?_⟩
      rcases List.mem_cons.mp m with e | m
      · exact ne e.symm
      · exact no m
  | .tuple ds, _, _, h, r => by
    cases h with
    | tup q all =>
      cases r
      obtain ⟨its, rv, ⟨o, e1, e2, n, e3⟩, _⟩ := I.tuple q
      obtain ⟨as, rd, no⟩ := dn_readsAll I ds _ its all rv
      exact ⟨_, .tuple e1 e2 e3 rd, no⟩
  | .dict kvs, _, _, h, r => by
    cases h with
    | emp e =>
      cases r
      obtain ⟨_, low, vs, kv, o, es, ep, h1, h2, h3, _, h5, _⟩ := dk_of I.hok e
      cases kv
      cases hes : es.toList with
      | cons a b => rw [hes] at h5; cases h5
      | nil =>
        refine ⟨_, .dict h1 h2.1 h3 (by rw [hes]; exact .nil) (by rw [hes]; exact .nil), fun m => ?_⟩
        simp at m
        rw [← m] at low
        simp at low
theorem dn_readsAll (I : Inv X pins σ H s) : ∀ (ds : List PyData) (vs : List V) (us : List Value), DnAll X.K H vs ds → Vals vs us → ∃ as, ReadsAll s.heap us ds as ∧ sysModules ∉ as
  | [], _, _, h, r => by
    cases h; cases r
    exact ⟨_, .nil, by simp⟩
  | d :: ds, _, _, h, r => by
    cases h with
    | cons a b =>
      cases r with
      | cons r1 r2 =>
        obtain ⟨as, q1, n1⟩ := dn_reads I d _ _ a r1
        obtain ⟨bs, q2, n2⟩ := dn_readsAll I ds _ _ b r2
        refine ⟨_, .cons q1 q2, fun m => ?_⟩
        rcases List.mem_append.mp m with m | m
        · exact n1 m
        · exact n2 m
end
end
section
variable {X : Cx} {es : List Expr} {t : TA} {pos : Pos}
/-- repr of a list or tuple of such things -/
theorem call_reprN (calm : X.A.guards = some []) (hu : X.A.units + 70 < cLine) : CallR X (.builtin "repr") (fun xs H Q => ∃ (a : Addr) (d : PyData),
    xs = [.ref a] ∧ Dn X.K H (.ref a) d ∧ d.showable = true ∧ d.depth ≤ 60 ∧ d.shown.length ≤ sizeLine ∧ Q (.str d.shown) H) := by
  intro pins s σ H xs us Q I r h
  obtain ⟨a, d, rfl, dn, sh, dep, sz, q⟩ := h
  obtain ⟨u, rfl, ru⟩ := Vals.one r
  cases (show u = Value.ref a from ru)
  obtain ⟨as, rd, no⟩ := dn_reads I d _ _ dn rfl
  refine repr_of_reads' rd sh (fun _ => no) calm (by omega) (fun _ _ e => e) ?_ sz
  intro h' tk n k
  exact ⟨.str d.shown, H, I.kept (t' := n) k, ⟨_, rfl⟩, q⟩
/-- [e, ..], known to be no sys.modules -/
theorem pe_lstN (h : PA X es t) : PE X (.List es pos) (fun σ H Q => t σ H fun xs H1 => xs.length ≤ sizeLine ∧ ∀ p, H1 p = none → p ≠ sysModules → Q (.ref p) (upd H1 p (.lst xs))) := by
  constructor
  intro pins s σ H Q I want
  refine wpAny_List_spliced (thn (h.run pos pins s σ H _ I want) fun us s1 ⟨xs, H1, J, rel, few, next⟩ => ?_)
  refine ⟨by rw [← rel.length]; exact few, .ref s1.heap.objs.size, upd H1 s1.heap.objs.size (.lst xs), ?_, rfl, next _ (J.hok.fresh (Nat.le_refl _)) (Nat.ne_of_gt J.big)⟩
  exact J.laid (t' := s1.toks) (fun _ _ e => Heap.get?_push_of_some _ e) (Nat.le_refl _) ⟨few, us, 0, rel, Heap.get?_push_size _ rfl⟩
/-- list + list, known to be no sys.modules -/
theorem op_catN : OpR X (binaryOp .Add) (fun x y H Q => ∃ (l b : Addr) (xs zs : List V), x = .ref l ∧ y = .ref b ∧ H l = some (.lst xs) ∧ H b = some (.lst zs) ∧ xs.length + zs.length ≤ sizeLine ∧
    ∀ p, H p = none → p ≠ sysModules → Q (.ref p) (upd H p (.lst (xs ++ zs)))) := by
  intro pins s σ H x y v u Q I rx ry want
  obtain ⟨l, b, xs, zs, rfl, rfl, at_l, at_b, few, next⟩ := want
  cases rx
  cases ry
  obtain ⟨_, its, n, r1, _, e1⟩ := I.lstM at_l
  obtain ⟨_, jts, m, r2, _, e2⟩ := I.lstM at_b
  have l1 := r1.length
  have l2 := r2.length
  refine PySem.P.add_list e1 e2 ?_ (by simp only [List.size_toArray]; omega)
  rw [show its.toArray ++ jts.toArray = (its ++ jts).toArray by simp]
  exact ⟨.ref _, _, I.lnew (t' := s.toks) (r1.append r2) (by rw [List.length_append]; exact few), rfl, next _ I.fresh (Nat.ne_of_gt I.big)⟩
end
end Hv
end

section
/-! Exceptions of the program as values: C(e, ..) with its own __init__, not raised. -/
namespace Hv
open PySem PySem.Spec PyProof.Rows L2 PySem.OEX
section
variable {X : Cx} {CX : CXT} {k : Nat} {C fI : Addr} {fd : FuncData} {ps : List Str} {sp : Sp} {dvs : List V} {ds : List Value} {E : XK}
theorem callR_oex (T : OexC X.K C) (iC : PySem.W.findIn X.K (.ref C) "__init__" = some (some (.ref fI))) (tI : PySem.W.typeIn X.K (.ref fI) = some (.type "function"))
    (F1 : Keeps X.prog X.w X.K X.mg X.base CX k fI fd ps sp) (room : Room (k + 1) X.A) (calm : X.A.guards = some []) (bind : Binds X.K fd ps ds) (dv : Vals dvs ds) (pass : Passes CX X E) :
    CallR X (.ref C) (fun vs H Q => vs.length ≤ 1000 ∧ ∀ a, H a = none → sp (.ref a :: (vs ++ dvs)) (upd H a (exo a C none)) (fun v H2 => v = .non ∧ Q (.ref a) H2) E) := by
  intro pins s σ H1 vs us Q I1 r1 h
  obtain ⟨hz, q1⟩ := h
  obtain ⟨nm, q, N, bs, bm, sn, sub, ab, col, dd, k0, k1, k2, k3, k5, hC, hbm⟩ := T.cls
  obtain ⟨hp, g, dr, tk, os⟩ := s
  have hsz : hp.objs.size ≤ hp.objs.size + 1 := Nat.le_succ _
  have hn : H1 (hp.objs.size + 1) = none := I1.hok.fresh hsz
  have hq := q1 (hp.objs.size + 1) hn
  have kk : ∀ b o, hp.get? b = some o → ((hp.push (PySem.W.kdv_tup us)).push (PySem.HandSPX.excO C hp.objs.size)).get? b = some o := fun b o e => Heap.get?_push_of_some _ (Heap.get?_push_of_some _ e)
  have hget : ((hp.push (PySem.W.kdv_tup us)).push (PySem.HandSPX.excO C hp.objs.size)).get? (hp.objs.size + 1) = some (PySem.HandSPX.excO C hp.objs.size) := by heap_get
  have I2 : Inv X pins σ (upd H1 (hp.objs.size + 1) (exo (hp.objs.size + 1) C none)) ⟨(hp.push (PySem.W.kdv_tup us)).push (PySem.HandSPX.excO C hp.objs.size), g, dr, tk, os⟩ :=
    I1.laid (t' := tk) (a := hp.objs.size + 1) (o := exo (hp.objs.size + 1) C none) (h' := (hp.push (PySem.W.kdv_tup us)).push (PySem.HandSPX.excO C hp.objs.size)) kk hsz (exo_ok hget)
  have r2 : Vals (V.ref (hp.objs.size + 1) :: (vs ++ dvs)) (Value.ref (hp.objs.size + 1) :: (us ++ ds)) := .cons rfl (r1.append dv)
  have hl : (Value.ref (hp.objs.size + 1) :: us ++ ds).length = ps.length := by
    have e := r2.length
    rw [F1.many _ _ _ _ hq] at e
    exact e.symm
  have hus : us.length ≤ sizeLine := by
    rw [← Paired.length r1, sizeLine_eq]
    omega
  have calm2 : (X.A.under (.builtin "type.__call__" ⟨Value.ref C :: us, []⟩)).guards = some [] := by
    show pushGuards (Code.builtin "type.__call__" ⟨Value.ref C :: us, []⟩).guards X.A.guards = some []
    rw [calm]; rfl
  refine wpAny_call (PySem.HandSPX.call_own F.excBase_ValueError (fun Y => PySem.HandSPX.refsVE_contains Y bm hbm) (I1.kIn _ _ hC) (PySem.W.looks_findIn I1.kIn iC) (fun self => PySem.W.bind_fn I1.kIn self tI) hus
    (codeAny_mono (F1.go _ X.stack _ _ ⟨Value.ref (hp.objs.size + 1) :: us, []⟩ (Value.ref (hp.objs.size + 1) :: (us ++ ds)) _ _ E (room.make C us []) calm2 (I2.env0.make C us []) (bind _ (Value.ref (hp.objs.size + 1) :: us) I2.kIn hl) r2 hq) fun r s' hq' => ?_))
  cases r with
  | error er => exact pass pins σ _ _ er s' I2 hq'
  | ok fl =>
    cases fl with
    | ret u =>
      obtain ⟨v, H2, J, rv, ev, q2⟩ := I2.after hq'
      subst ev
      exact ⟨rv, .ref (hp.objs.size + 1), H2, J, rfl, q2⟩
    | next => exact False.elim hq'
    | brk => exact False.elim hq'
    | cont => exact False.elim hq'
end
end Hv
end

section
/-! The first field of an exception over any built-in base. -/
namespace PySem.Hx
open PySem PySem.W PySem.Calls PyProof.Rows PySem.HandSPX PySem.OEX
open Builtin Builtin.ObjectAttr
section
variable {prog : Program} {w : World} {A : Around} {R : Result → Shared → Prop} {g : Array GenState} {dn : Drawn} {t : Nat} {os : OsState} {B : String} {bmB : List Value}
theorem first_field {K : W.Frag} {G : Heap} {f : Str} {tk : Tok} {v : Value} {x C : Addr} {fv : Array Value} {cl : ClassData}
    (SF : StoreFacts B bmB "object.__setattr__" "object") (Y : K.In G) (at_x : G.get? x = some { cls := .ref C, data := .fields fv }) (cd : W.clsIn K C = some cl)
    (over : W.excOver K C bmB = true) (free : W.takerIn K C f = some none) (dict : cl.hasDict = true)
    (out : ∀ G' tk' dx, (∀ b o, b ≠ x → G.get? b = some o → G'.get? b = some o) → G.objs.size ≤ dx → dx ≠ x → G'.get? x = some { cls := .ref C, dict := some dx, data := .fields fv } →
      G'.Ns1 dx (fun y => if y = f then some v else none) → R (.ok (.ret .none)) ⟨G', g, dn, tk', os⟩) :
    codeAny (model prog w) A (.call (.builtin "object.__setattr__") ⟨[.ref x, .str f tk, v], []⟩) R ⟨G, g, dn, t, os⟩ := by
  refine W.osa_openX SF Y (ox := { cls := .ref C, data := .fields fv }) (od := none) ⟨at_x, rfl, rfl, trivial⟩ over free fun b => ?_
  have look : W.Looks (model prog w) G (classData C) cl := W.looks_clsIn Y cd
  have xn : x ≠ G.objs.size := Nat.ne_of_lt (Heap.lt_size at_x)
  cases cl with
  | mk nm bs mro ns qn hd sn sb ab col del =>
    cases (show hd = true from dict)
    unfold storeInOwnDict ownDictForStores
    repeat
      first
        | with_reducible refine store_in_new ?_ ?_
        | with_reducible refine wpAny_loadPart_at at_x ?_
        | with_reducible refine look.at ?_
        | wp_step
    · refine ⟨_, #[], _, (Heap.get?_update_ne _ _ _ _ xn.symm).trans (Heap.get?_push_at rfl rfl), rfl, ?_, fun _ => rfl⟩
      intro e he
      exact absurd he (by simp)
    · intro G' tk' ns' same'
      have y1 : (G.push { cls := .type "dict", data := .dict #[] }).get? x = some { cls := .ref C, data := .fields fv } := Heap.get?_push_of_some _ at_x
      refine out G' tk' G.objs.size ?_ (Nat.le_refl _) xn.symm ((same'.2 x xn).trans (Heap.get?_update_self _ y1 rfl)) ns'
      intro b o nb at_b
      have y2 := Heap.get?_update_ne (h := G.push { cls := .type "dict", data := .dict #[] }) (a := x) (b := b)
      refine (same'.2 b (Nat.ne_of_lt (Heap.lt_size at_b))).trans ?_
      exact (Heap.get?_update_ne _ _ _ _ nb).trans (Heap.get?_push_of_some _ at_b)
end
end PySem.Hx
end

section
/-! Exceptions of the program over any built-in base: made, with fields, as values. -/
namespace Hv
open PySem PySem.Spec PyProof.Rows L2 PySem.OEX
/-- a built-in exception class as a base -/
structure BaseG (B newId initId : String) (bmB : List Value) : Prop where
  call : ExcBaseFacts B newId initId bmB
  store : StoreFacts B bmB "object.__setattr__" "object"
theorem base_value : BaseG "ValueError" "ValueError.__new__" "ValueError.__init__" [.type "ValueError", .type "Exception", .type "BaseException", .type "object"] := ⟨PySem.F.excBase_ValueError, PySem.F.store_ValueError⟩
theorem base_index : BaseG "IndexError" "IndexError.__new__" "IndexError.__init__" [.type "IndexError", .type "LookupError", .type "Exception", .type "BaseException", .type "object"] := ⟨PySem.F.excBase_IndexError, PySem.F.store_IndexError⟩
theorem base_lookup : BaseG "LookupError" "LookupError.__new__" "LookupError.__init__" [.type "LookupError", .type "Exception", .type "BaseException", .type "object"] := ⟨PySem.F.excBase_LookupError, PySem.F.store_LookupError⟩
theorem base_runtime : BaseG "RuntimeError" "RuntimeError.__new__" "RuntimeError.__init__" [.type "RuntimeError", .type "Exception", .type "BaseException", .type "object"] := ⟨PySem.F.excBase_RuntimeError, PySem.F.store_RuntimeError⟩
theorem base_overflow : BaseG "OverflowError" "OverflowError.__new__" "OverflowError.__init__" [.type "OverflowError", .type "ArithmeticError", .type "Exception", .type "BaseException", .type "object"] := ⟨PySem.F.excBase_OverflowError, PySem.F.store_OverflowError⟩
/-- an own class over such a base -/
structure OexG (K : PySem.W.Frag) (newId : String) (bmB : List Value) (C : Addr) : Prop where
  cls : ∃ nm q N bs bm sn sub ab col dd k0 k1 k2 k3 k5, K.lookup C = some (excClassObj nm q C N bs bm true sn sub ab col dd k0 k1 k2 k3 k5 newId) ∧ PySem.W.excTail bmB bm = true
  sa : PySem.W.findIn K (.ref C) "__setattr__" = some (some (.builtin "object.__setattr__"))
  exC : PySem.W.subIn K (.ref C) (.type "BaseException") = some true
  tyC : PySem.W.typeIn K (.ref C) = some (.type "type")
  kC : PySem.W.keepIn K (.ref C) = true
section
variable {X : Cx} {pins : List (Addr × Obj)} {σ : L2.St} {H : Hp} {s : Shared} {x C : Addr} {f : Str} {y : V} {u : Value} {Q : Unit → Shared → Prop} {E : Value → Shared → Prop} {A : Around} {B newId initId : String} {bmB : List Value}
/-- the first field of an exception that is being made -/
theorem field_new (FB : BaseG B newId initId bmB) (T : OexG X.K newId bmB C) (I : Inv X pins σ H s) (at_x : H x = some (exo x C none)) (no : PySem.W.findIn X.K (.ref C) f = some none) (ry : RelV y u)
    (out : ∀ dx s', H dx = none → dx ≠ x → Inv X pins σ (upd (upd H dx (exd dx [(f, y)])) x (exo x C (some dx))) s' → Q () s') : wpAny (model X.prog X.w) A (setAttr (.ref x) f u) Q E s := by
  obtain ⟨nm, q, N, bs, bm, sn, sub, ab, col, dd, k0, k1, k2, k3, k5, hC, tail⟩ := T.cls
  have cl : PySem.W.clsIn X.K C = some ⟨nm, bs, .ref C :: bm, N, q, true, sn, sub, ab, col, false⟩ := by
    unfold PySem.W.clsIn
    rw [hC]
  have over : PySem.W.excOver X.K C bmB = true := by
    unfold PySem.W.excOver
    rw [cl]
    show (C == C && PySem.W.excTail bmB bm) = true
    rw [tail, Bool.and_true]
    exact beq_iff_eq.mpr rfl
  have free : PySem.W.takerIn X.K C f = some none := by
    unfold PySem.W.takerIn
    rw [no]
    rfl
  obtain ⟨t1, obj⟩ := exo_at I.hok at_x
  obtain ⟨G, gs, dr, tk, os⟩ := s
  refine PySem.W.set_plain I.kIn (ox := ⟨.ref C, none, .fields #[.ref t1, .none, .none, .none, .bool false, .none], #[]⟩) (od := none) ⟨obj, rfl, rfl, trivial⟩ T.sa ?_
  refine PySem.Hx.first_field FB.store I.kIn obj cl over free rfl fun G' tk' dx stay young apart there names => ?_
  have fresh : H dx = none := I.hok.fresh young
  have older : ∀ {b : Addr} {o : Obj}, G.get? b = some o → b ≠ dx := fun {b o} e => Nat.ne_of_lt (Nat.lt_of_lt_of_le (Heap.lt_size e) young)
  have other : ∀ {b : Addr}, H b = none → b ≠ x := by
    rintro b e rfl
    rw [at_x] at e
    cases e
  have un : Un X.fs [] H (upd (upd H dx (exd dx [(f, y)])) x (exo x C (some dx))) G G' := by
    refine ⟨fun b o e n _ _ => stay b o (other n) e, fun b o e n _ _ => ⟨o.slots, stay b o (other n) e⟩, fun b o e n _ => ?_, fun b o e _ => ?_, fun b xs e => ?_, fun b o v e => ?_, fun b ps e => ⟨#[], ?_⟩⟩
    · rw [upd_ne (other n), upd_ne (older e)]
      exact n
    · by_cases h : b = x
      · subst h
        exact ⟨_, there⟩
      · exact ⟨o, stay b o h e⟩
    · rw [upd_ne (at_ne at_x e exo_tup), upd_ne (ne_of_none e fresh)]
      exact e
    · rw [upd_ne (at_ne at_x e exo_frz), upd_ne (ne_of_none e fresh)]
      exact e
    · rw [upd_ne (at_ne at_x e exo_tbl), upd_ne (ne_of_none e fresh), e]
      simp
  refine out dx _ fresh apart (I.un (t' := tk') un fun b o e => ?_)
  by_cases h : b = x
  · subst h
    rw [upd_same] at e
    cases e
    exact exo_ok there
  · rw [upd_ne h] at e
    by_cases h2 : b = dx
    · subst h2
      rw [upd_same] at e
      cases e
      exact exd_ok names (relO_put (fs := []) ry fun _ => True.intro)
    · rw [upd_ne h2] at e
      refine (I.hok b o e).stay (fun c v which z => stay c v ?_ z) (fun c e3 => ?_) (fun c xs e3 => ?_)
      · rcases which with w | w
        · rw [w]; exact h
        · exact at_ne at_x w exo_own
      · rw [upd_ne (at_ne at_x e3 exo_own), upd_ne (ne_of_none e3 fresh)]
        exact e3
      · rw [upd_ne (at_ne at_x e3 exo_tup), upd_ne (ne_of_none e3 fresh)]
        exact e3
end
section
variable {X : Cx} {CX : CXT} {k : Nat} {C fI : Addr} {fd : FuncData} {ps : List Str} {sp : Sp} {dvs : List V} {ds : List Value} {E : XK}
theorem callR_oexG {B newId initId : String} {bmB : List Value} (FB : BaseG B newId initId bmB) (T : OexG X.K newId bmB C) (iC : PySem.W.findIn X.K (.ref C) "__init__" = some (some (.ref fI))) (tI : PySem.W.typeIn X.K (.ref fI) = some (.type "function"))
    (F1 : Keeps X.prog X.w X.K X.mg X.base CX k fI fd ps sp) (room : Room (k + 1) X.A) (calm : X.A.guards = some []) (bind : Binds X.K fd ps ds) (dv : Vals dvs ds) (pass : Passes CX X E) :
    CallR X (.ref C) (fun vs H Q => vs.length ≤ 1000 ∧ ∀ a, H a = none → sp (.ref a :: (vs ++ dvs)) (upd H a (exo a C none)) (fun v H2 => v = .non ∧ Q (.ref a) H2) E) := by
  intro pins s σ H1 vs us Q I1 r1 h
  obtain ⟨hz, q1⟩ := h
  obtain ⟨nm, q, N, bs, bm, sn, sub, ab, col, dd, k0, k1, k2, k3, k5, hC, hbm⟩ := T.cls
  obtain ⟨hp, g, dr, tk, os⟩ := s
  have hsz : hp.objs.size ≤ hp.objs.size + 1 := Nat.le_succ _
  have hn : H1 (hp.objs.size + 1) = none := I1.hok.fresh hsz
  have hq := q1 (hp.objs.size + 1) hn
  have kk : ∀ b o, hp.get? b = some o → ((hp.push (PySem.W.kdv_tup us)).push (PySem.HandSPX.excO C hp.objs.size)).get? b = some o := fun b o e => Heap.get?_push_of_some _ (Heap.get?_push_of_some _ e)
  have hget : ((hp.push (PySem.W.kdv_tup us)).push (PySem.HandSPX.excO C hp.objs.size)).get? (hp.objs.size + 1) = some (PySem.HandSPX.excO C hp.objs.size) := by heap_get
  have I2 : Inv X pins σ (upd H1 (hp.objs.size + 1) (exo (hp.objs.size + 1) C none)) ⟨(hp.push (PySem.W.kdv_tup us)).push (PySem.HandSPX.excO C hp.objs.size), g, dr, tk, os⟩ :=
    I1.laid (t' := tk) (a := hp.objs.size + 1) (o := exo (hp.objs.size + 1) C none) (h' := (hp.push (PySem.W.kdv_tup us)).push (PySem.HandSPX.excO C hp.objs.size)) kk hsz (exo_ok hget)
  have r2 : Vals (V.ref (hp.objs.size + 1) :: (vs ++ dvs)) (Value.ref (hp.objs.size + 1) :: (us ++ ds)) := .cons rfl (r1.append dv)
  have hl : (Value.ref (hp.objs.size + 1) :: us ++ ds).length = ps.length := by
    have e := r2.length
    rw [F1.many _ _ _ _ hq] at e
    exact e.symm
  have hus : us.length ≤ sizeLine := by
    rw [← Paired.length r1, sizeLine_eq]
    omega
  have calm2 : (X.A.under (.builtin "type.__call__" ⟨Value.ref C :: us, []⟩)).guards = some [] := by
    show pushGuards (Code.builtin "type.__call__" ⟨Value.ref C :: us, []⟩).guards X.A.guards = some []
    rw [calm]; rfl
  refine wpAny_call (PySem.HandSPX.call_own FB.call (fun Y => PySem.W.excTail_contains Y bm hbm) (I1.kIn _ _ hC) (PySem.W.looks_findIn I1.kIn iC) (fun self => PySem.W.bind_fn I1.kIn self tI) hus
    (codeAny_mono (F1.go _ X.stack _ _ ⟨Value.ref (hp.objs.size + 1) :: us, []⟩ (Value.ref (hp.objs.size + 1) :: (us ++ ds)) _ _ E (room.make C us []) calm2 (I2.env0.make C us []) (bind _ (Value.ref (hp.objs.size + 1) :: us) I2.kIn hl) r2 hq) fun r s' hq' => ?_))
  cases r with
  | error er => exact pass pins σ _ _ er s' I2 hq'
  | ok fl =>
    cases fl with
    | ret u =>
      obtain ⟨v, H2, J, rv, ev, q2⟩ := I2.after hq'
      subst ev
      exact ⟨rv, .ref (hp.objs.size + 1), H2, J, rfl, q2⟩
    | next => exact False.elim hq'
    | brk => exact False.elim hq'
    | cont => exact False.elim hq'
end
section
variable {X : Cx} {o e : Expr} {to te : TE} {f : Str} {p' pos : Pos} {B newId initId : String} {bmB : List Value}
/-- self.f = e, the first field -/
theorem ps_field1 (FB : BaseG B newId initId bmB) (ho : PE X o to) (he : PE X e te) (hs : swapsWith e (some (.Attribute o f p')) pos.line X.env = pure false := by rfl) :
    PS X (.Assign [.Attribute o f p'] e pos) (fun D σ H => te σ H fun y H1 => to σ H1 fun x H2 => ∃ a C : Addr, x = .ref a ∧ OexG X.K newId bmB C ∧ PySem.W.findIn X.K (.ref C) f = some none ∧
      H2 a = some (exo a C none) ∧ ∀ dx, H2 dx = none → dx ≠ a → D.nx σ (upd (upd H2 dx (exd dx [(f, y)])) a (exo a C (some dx)))) := by
  constructor
  intro pins s σ H D I h
  refine plainObj_wpAny_Assign_Attribute (thn (he.run pins s σ H _ I h) fun v s1 ⟨y, H1, J, ry, h1⟩ => ?_) hs
  refine thn (ho.run pins s1 σ H1 _ J h1) fun u s2 ⟨x, H2, J2, rx, a, C, ex, T, no, at_a, next⟩ => ?_
  subst ex
  cases (show u = Value.ref a from rx)
  exact field_new FB T J2 at_a no ry fun dx s' fresh apart J3 => ⟨σ, _, J3, next dx fresh apart⟩
end
end Hv
end

section
/-! Exceptions as values: what they are instances of, their fields. -/
namespace Hv
open PySem PySem.Spec PyProof.Rows L2 PySem.OEX
/-- an exception with its fields stands at a -/
def Exc (H : Hp) (a C : Addr) (fs : List (Str × V)) : Prop := ∃ dx, H a = some (exo a C (some dx)) ∧ H dx = some (exd dx fs)
theorem same_exc {H H' : Hp} {a C : Addr} {fs : List (Str × V)} (s : Same H H') (h : Exc H a C fs) : Exc H' a C fs := let ⟨dx, e1, e2⟩ := h; ⟨dx, s _ _ e1, s _ _ e2⟩
section
variable {X : Cx}
theorem exc_inst {pins : List (Addr × Obj)} {σ : L2.St} {H : Hp} {s : Shared} {a C : Addr} {fs : List (Str × V)} (I : Inv X pins σ H s) (h : Exc H a C fs) :
    ∃ (ox : Obj) (od : Obj) (mA : Str → Option Value), PySem.W.InstAt s.heap a ox C (some od) ∧ (∀ f, PySem.W.lookIn f od = some (mA f)) ∧ ∀ f, RelO (fs.lookup f) (mA f) := by
  obtain ⟨dx, e1, e2⟩ := h
  obtain ⟨t1, obj⟩ := exo_at I.hok e1
  obtain ⟨mA, names, rel⟩ := exd_at I.hok e2
  obtain ⟨od, at_d, look⟩ := lookIn_ns names
  exact ⟨_, od, mA, ⟨obj, rfl, rfl, at_d⟩, look, rel⟩
/-- isinstance(e, c) -/
theorem call_isX : CallR X (.builtin "isinstance") (fun xs H Q => ∃ (a C : Addr) (fs : List (Str × V)) (c : V) (u : Value) (b : Bool), xs = [.ref a, c] ∧ Exc H a C fs ∧ ExcC X.K C ∧ ClsV c u ∧ PySem.W.kitOne X.K (.ref C) u = some b ∧ Q (.bl b) H) := by
  intro pins s σ H xs us Q I r h
  obtain ⟨a, C, fs, c, u, b, rfl, ex, kin, cv, e, q⟩ := h
  obtain ⟨u1, u2, rfl, r1, r2⟩ := vals2 r
  cases cv.eq r2
  cases (show u1 = Value.ref a from r1)
  obtain ⟨ox, od, mA, J, _⟩ := exc_inst I ex
  have some_c : (PySem.W.clsIn X.K C).isSome = true := by
    obtain ⟨cd, hc, _⟩ := PySem.W.any_some kin.hd
    rw [hc]
    rfl
  exact PySem.W.kia_one (PySem.W.kitx_exc some_c kin.hg kin.hk kin.hs kin.ha kin.hn kin.ht kin.hm) I.kIn J e (fun z => nomatch z) fun tk => ⟨.bl b, H, I.tok tk, rfl, q⟩
/-- e.f -/
theorem pe_excF {e : Expr} {te : TE} {pos : Pos} {f : Str} (he : PE X e te) (hb : attributeBase e f X.env (eval e X.env) = eval e X.env := by rfl) :
    PE X (.Attribute e f pos) (fun σ H Q => te σ H fun x H1 => ∃ (a C : Addr) (fs : List (Str × V)) (v : V), x = .ref a ∧ Exc H1 a C fs ∧ XfC X.K C ∧ PySem.W.findIn X.K (.ref C) f = some none ∧ fs.lookup f = some v ∧ Q v H1) := by
  constructor
  intro pins s σ H Q I h
  refine attr_of hb (thn (he.run pins s σ H _ I h) fun u s1 ⟨x, H1, J, rx, a, C, fs, v, ex, exc, T, no, l, q⟩ => ?_)
  subst ex
  cases (show u = Value.ref a from rx)
  obtain ⟨ox, od, mA, K1, look, rel⟩ := exc_inst J exc
  obtain ⟨w, hw, rw'⟩ := RelO.some_of (v := v) (o := mA f) (by rw [← l]; exact rel f)
  exact PySem.HandSPX.exc_get J.kIn K1 T.ga T.gg T.exC (PySem.W.findObj_own T.hdC no rfl (by rw [look, hw])) (handed_of rw') ⟨v, H1, J.tok _, rw', q⟩
end
end Hv
end

section
/-! A further field of an exception that is being made. -/
namespace PySem.Hx
open PySem PySem.W PySem.Calls PyProof.Rows PySem.HandSPX PySem.OEX
open Builtin Builtin.ObjectAttr
section
variable {prog : Program} {w : World} {A : Around} {R : Result → Shared → Prop} {g : Array GenState} {dn : Drawn} {t : Nat} {os : OsState} {B : String} {bmB : List Value}
theorem more_field {K : W.Frag} {G : Heap} {f : Str} {tk : Tok} {v : Value} {x C dx : Addr} {fv : Array Value} {cl : ClassData} {m0 : Str → Option Value} {fl : List Str}
    (SF : StoreFacts B bmB "object.__setattr__" "object") (Y : K.In G) (at_x : G.get? x = some { cls := .ref C, dict := some dx, data := .fields fv }) (names : G.Ns1 dx m0) (within : Within m0 fl) (few : fl.length ≤ 1000)
    (cd : W.clsIn K C = some cl) (over : W.excOver K C bmB = true) (free : W.takerIn K C f = some none) (dict : cl.hasDict = true)
    (out : ∀ G' tk', (∀ b o, b ≠ dx → G.get? b = some o → G'.get? b = some o) → G'.Ns1 dx (fun y => if y = f then some v else m0 y) → R (.ok (.ret .none)) ⟨G', g, dn, tk', os⟩) :
    codeAny (model prog w) A (.call (.builtin "object.__setattr__") ⟨[.ref x, .str f tk, v], []⟩) R ⟨G, g, dn, t, os⟩ := by
  obtain ⟨od, _, _, at_d, _, _⟩ := names.count within
  refine W.osa_openX SF Y (ox := { cls := .ref C, dict := some dx, data := .fields fv }) (od := some od) ⟨at_x, rfl, rfl, at_d⟩ over free fun b => ?_
  have look : W.Looks (model prog w) G (classData C) cl := W.looks_clsIn Y cd
  cases cl with
  | mk nm bs mro ns qn hd sn sb ab col del =>
    cases (show hd = true from dict)
    unfold storeInOwnDict ownDictForStores
    repeat
      first
        | with_reducible refine store_in_old names within few ?_
        | with_reducible refine wpAny_loadPart_at at_x ?_
        | with_reducible refine look.at ?_
        | wp_step
    intro G' tk' ns' same'
    exact out G' tk' (fun b o nb at_b => (same'.2 b nb).trans at_b) ns'
end
end PySem.Hx
namespace Hv
open PySem PySem.Spec PyProof.Rows L2 PySem.OEX
section
variable {X : Cx} {pins : List (Addr × Obj)} {σ : L2.St} {H : Hp} {s : Shared} {x C dx : Addr} {f : Str} {y : V} {u : Value} {fs : List (Str × V)} {Q : Unit → Shared → Prop} {E : Value → Shared → Prop} {A : Around} {B newId initId : String} {bmB : List Value}
theorem field_more (FB : BaseG B newId initId bmB) (T : OexG X.K newId bmB C) (I : Inv X pins σ H s) (at_x : H x = some (exo x C (some dx))) (at_d : H dx = some (exd dx fs)) (few : fs.length ≤ 900) (no : PySem.W.findIn X.K (.ref C) f = some none) (ry : RelV y u)
    (out : ∀ s', Inv X pins σ (upd H dx (exd dx ((f, y) :: fs))) s' → Q () s') : wpAny (model X.prog X.w) A (setAttr (.ref x) f u) Q E s := by
  obtain ⟨nm, q, N, bs, bm, sn, sub, ab, col, dd, k0, k1, k2, k3, k5, hC, tail⟩ := T.cls
  have cl : PySem.W.clsIn X.K C = some ⟨nm, bs, .ref C :: bm, N, q, true, sn, sub, ab, col, false⟩ := by
    unfold PySem.W.clsIn
    rw [hC]
  have over : PySem.W.excOver X.K C bmB = true := by
    unfold PySem.W.excOver
    rw [cl]
    show (C == C && PySem.W.excTail bmB bm) = true
    rw [tail, Bool.and_true]
    exact beq_iff_eq.mpr rfl
  have free : PySem.W.takerIn X.K C f = some none := by
    unfold PySem.W.takerIn
    rw [no]
    rfl
  obtain ⟨t1, obj⟩ := exo_at I.hok at_x
  obtain ⟨mA, names, rel⟩ := exd_at I.hok at_d
  have within := within_of rel
  obtain ⟨G, gs, dr, tk, os⟩ := s
  obtain ⟨od, _, _, at_od, _, _⟩ := names.count within
  refine PySem.W.set_plain I.kIn (ox := ⟨.ref C, some dx, .fields #[.ref t1, .none, .none, .none, .bool false, .none], #[]⟩) (od := some od) ⟨obj, rfl, rfl, at_od⟩ T.sa ?_
  refine PySem.Hx.more_field FB.store I.kIn obj names within (by rw [List.length_map]; omega) cl over free rfl fun G' tk' stay names' => ?_
  obtain ⟨o', _, _, at', _⟩ := id names'
  exact out _ (I.write (t' := tk') (x := dx) (e := dx) (o := exd dx ((f, y) :: fs)) (by rw [at_d]; exact True.intro) (.inl rfl) stay ⟨o', at'⟩ (exd_ok names' (relO_put ry rel)))
end
section
variable {X : Cx} {o e : Expr} {to te : TE} {f : Str} {p' pos : Pos} {B newId initId : String} {bmB : List Value}
/-- self.f = e, a further field -/
theorem ps_field2 (FB : BaseG B newId initId bmB) (ho : PE X o to) (he : PE X e te) (hs : swapsWith e (some (.Attribute o f p')) pos.line X.env = pure false := by rfl) :
    PS X (.Assign [.Attribute o f p'] e pos) (fun D σ H => te σ H fun y H1 => to σ H1 fun x H2 => ∃ (a C dx : Addr) (fs : List (Str × V)), x = .ref a ∧ OexG X.K newId bmB C ∧ PySem.W.findIn X.K (.ref C) f = some none ∧
      H2 a = some (exo a C (some dx)) ∧ H2 dx = some (exd dx fs) ∧ fs.length ≤ 900 ∧ D.nx σ (upd H2 dx (exd dx ((f, y) :: fs)))) := by
  constructor
  intro pins s σ H D I h
  refine plainObj_wpAny_Assign_Attribute (thn (he.run pins s σ H _ I h) fun v s1 ⟨y, H1, J, ry, h1⟩ => ?_) hs
  refine thn (ho.run pins s1 σ H1 _ J h1) fun u s2 ⟨x, H2, J2, rx, a, C, dx, fs, ex, T, no, at_a, at_d, few, next⟩ => ?_
  subst ex
  cases (show u = Value.ref a from rx)
  exact field_more FB T J2 at_a at_d few no ry fun s' J3 => ⟨σ, _, J3, next⟩
end
end Hv
end

section
open PySem PySem.Spec PyProof.Rows L2 Hv
local macro_rules | `(tactic| walk_at "rd") => `(tactic| repeat (first
  | refine ⟨_, rfl, ?_⟩
  | refine ⟨_, _, rfl, rfl, ?_⟩
  | refine ⟨_, _, rfl, ?_⟩
  | refine And.intro (show (0 : Int) < _ by omega) ?_
  | refine And.intro (show CDiv _ _ from ⟨by omega, by omega⟩) ?_
  | refine And.intro (show CMul _ _ from Or.inl ⟨by omega, by omega⟩) ?_
  | refine And.intro (show CMul _ _ from Or.inr ⟨by omega, by omega⟩) ?_
  | refine And.intro (show CPow _ _ from ⟨by decide, by decide, by decide⟩) ?_))
namespace K3
def top (i : Nat) : Stmt := PySem.Challenge.pw_onehistory_k03_refusals_apart.main.body.getD i (.Pass ⟨0, 0, 0, 0⟩)
abbrev s_begun : Stmt := top 11
theorem sc_begun : FnScope ["_law_script", "_law_k", "_law_cell", "_law_number", "_law_mixed"] ["_law_script", "_law_k"] (defScope s_begun) :=
  ⟨rfl, rfl, rfl, by decide +kernel, rfl, by decide +kernel, by decide +kernel⟩
abbrev s_take : Stmt := top 12
theorem sc_take : FnScope ["_law_state", "_law_many", "_law_digit", "_law_made", "_law_turn"] ["_law_state", "_law_many"] (defScope s_take) :=
  ⟨rfl, rfl, rfl, by decide +kernel, rfl, by decide +kernel, by decide +kernel⟩
/-- the built-in names that the draws ask -/
structure TxtB (mg : Str → Option Value) : Prop where
  b_max : mg "max" = none
  b_int : mg "int" = none
  b_range : mg "range" = none
/-- a draw's state: a whole number, one below 2^31, a truth -/
def Pool (H : Hp) (p : Addr) : Prop := ∃ (a b : Int) (c : Bool), H p = some (.lst [.int a, .int b, .bl c]) ∧ 0 ≤ a ∧ 0 ≤ b ∧ b < 2147483647
/-- all but what stands at p is as it was -/
def But (p : Addr) (H H' : Hp) : Prop := ∀ b o, b ≠ p → H b = some o → H' b = some o
def spBegun (K : PySem.W.Frag) : Sp := fun vs H Q _ => ∃ (a : Addr) (ns : List Int) (k : Int), vs = [.ref a, .int k] ∧ SqL K H a (ns.map V.int) ∧ ns.length ≤ 63 ∧ 0 ≤ k ∧ k < 64 ∧
  ∀ p H', H p = none → Same H H' → Pool H' p → Q (.ref p) H'
def spTake : Sp := fun vs H Q _ => ∃ (p : Addr) (m : Int), vs = [.ref p, .int m] ∧ Pool H p ∧ 0 < m ∧ m < 1073741824 ∧
  ∀ (r : Int) H', 0 ≤ r → r < m → But p H H' → Pool H' p → Q (.int r) H'
section
variable {P : Program} {w : World} {K : PySem.W.Frag} {mg : Str → Option Value} {base : Heap}
theorem ok_begun {f : Addr} {fd : FuncData} (F : Fun K "_law_begun" "_law_begun" s_begun f fd) (T : TxtB mg) : Keeps P w K mg base CX0 1 f fd ["_law_script", "_law_k"] (spBegun K) := by
  refine keeps0 F sc_begun (fun vs H Q E h => ?_) (fun cdv A outer s H vs Q E hr calm h => ?_)
  · obtain ⟨a, ns, k, rfl, _⟩ := h
    rfl
  · obtain ⟨a, ns, k, rfl, sq, few, k0, k1, out⟩ := h
    refine ⟨_, pss_cons (ps_set (i := 2) sc_begun.nd rfl (Or.inl rfl) (pe_ix ix_list (pe_op op_cat (pe_slice sl_list (pv 0) (po_some (pv 1)) (po_some (pe_op op_add (pv 1) pe_int))) (pe_lst (pa_cons pe_int pa_nil))) pe_int (fun _ _ => rfl)))
      (pss_cons (ps_set (i := 3) sc_begun.nd rfl (Or.inl rfl) (pe_callB (call_max2 rfl) (by rfl) T.b_max (by decide +kernel) (pa_cons (pv 2) (pa_cons (pe_op op_sub (pe_un un_neg pe_int) (pv 2)) pa_nil))))
      (pss_cons (ps_set (i := 4) sc_begun.nd rfl (Or.inl rfl) (pe_op op_mod (pe_op op_add (pe_op op_add (pe_op op_add (pe_op op_mod (pv 3) pe_int) (pe_op op_mul pe_int (pv 1))) (pe_op op_mul (pe_op op_mul pe_int (pv 1)) (pv 1))) pe_int) pe_int))
      (pss_one (ps_ret (pe_lst (pa_cons (pv 3) (pa_cons (pv 4) (pa_cons (pe_cmpR op_ge (pv 3) (pe_op op_pow pe_int pe_int) (nomark _)) pa_nil)))))))), ?_⟩
    obtain ⟨ms, hms⟩ : ∃ ms : List Int, cutV (ns.map V.int) (some k) (some (k + 1)) = ms.map V.int := by
      unfold cutV
      rw [← List.map_drop, ← List.map_take]
      exact ⟨_, rfl⟩
    have fewm : ms.length ≤ 63 := by
      have e := cutV_length (ns.map V.int) (some k) (some (k + 1))
      rw [hms, List.length_map, List.length_map] at e
      omega
    obtain ⟨c, hc⟩ : ∃ c : Int, atI (ms.map V.int ++ [V.int 0]) 0 = some (.int c) := by
      cases ms with
      | nil => exact ⟨0, rfl⟩
      | cons m r => exact ⟨m, atI_nat (by rfl)⟩
    refine ⟨_, rfl, _, rfl, k, rfl, _, rfl, _, _, rfl, rfl, k + 1, rfl, a, _, rfl, sq, fun p1 n1 => ⟨(by show 1 ≤ sizeLine; decide), fun p2 n2 => ?_⟩⟩
    have d12 : p1 ≠ p2 := fun e => by rw [← e, upd_same] at n2; cases n2
    refine ⟨p1, p2, _, _, rfl, rfl, (by rw [upd_ne d12]; exact upd_same), upd_same, ?_, fun p3 n3 => ?_⟩
    · rw [hms, List.length_map]
      show ms.length + 1 ≤ sizeLine
      exact Nat.le_trans (Nat.add_le_add_right fewm 1) (by decide)
    refine ⟨p3, _, 0, _, rfl, rfl, SqL.of upd_same, (by rw [hms]; exact hc), ?_⟩
    walk_at "rd"
    refine ⟨(by show 3 ≤ sizeLine; decide), fun p4 n4 => ?_⟩
    have s1 : Same H (upd H p1 (HO.lst (cutV (ns.map V.int) (some k) (some (k + 1))))) := same_new n1
    have s2 := s1.trans (same_new (o := HO.lst [V.int 0]) n2)
    have s3 := s2.trans (same_new (o := HO.lst (cutV (ns.map V.int) (some k) (some (k + 1)) ++ [V.int 0])) n3)
    refine out p4 _ (s3.free n4) (s3.trans (same_new n4)) ⟨_, _, _, upd_same, ?_, Int.emod_nonneg _ (by decide), Int.lt_trans (Int.emod_lt_of_pos _ (by decide)) (by decide)⟩
    show 0 ≤ (if -1 - c > c then -1 - c else c)
    split <;> omega
theorem ok_take {f : Addr} {fd : FuncData} (F : Fun K "_law_take" "_law_take" s_take f fd) (T : TxtB mg) : Keeps P w K mg base CX0 1 f fd ["_law_state", "_law_many"] spTake := by
  refine keeps0 F sc_take (fun vs H Q E h => ?_) (fun cdv A outer s H vs Q E hr calm h => ?_)
  · obtain ⟨a, m, rfl, _⟩ := h
    rfl
  · obtain ⟨p, m, rfl, ⟨a, b, c, hp, a0, b0, b1⟩, m0, m1, out⟩ := h
    refine ⟨_, pss_cons (ps_if (pt_val (pe_ix ix_list (pv 0) pe_int (fun _ _ => rfl)))
        (pss_cons (ps_set (i := 2) sc_take.nd rfl (Or.inl rfl) (pe_op op_mod (pe_ix ix_list (pv 0) pe_int (fun _ _ => rfl)) (pv 1)))
        (pss_cons (ps_asg (pe_op op_fdiv (pe_ix ix_list (pv 0) pe_int (fun _ _ => rfl)) (pv 1)) (pg_sub (pv 0) pe_int set_list))
        (pss_cons (ps_asg (pe_cmpR op_gt (pe_ix ix_list (pv 0) pe_int (fun _ _ => rfl)) pe_int (nomark _)) (pg_sub (pv 0) pe_int set_list))
        (pss_one (ps_ret (pv 2)))))) pss_nil)
      (pss_cons (ps_set (i := 3) sc_take.nd rfl (Or.inl rfl) pe_int)
      (pss_cons (ps_for PassesOwn.never rfl (pi_range1 (by rfl) T.b_range (pa_cons (pe_op op_add pe_int (pe_callTy call_int1 (by rfl) T.b_int (by decide +kernel) (pa_cons (pe_cmpR op_gt (pv 1) (pe_op op_pow pe_int pe_int) (nomark _)) pa_nil))) pa_nil)) (pg_name (i := 4) sc_take.nd rfl (Or.inl rfl))
        (pss_cons (ps_asg (pe_op op_mod (pe_op op_add (pe_op op_mul (pe_ix ix_list (pv 0) pe_int (fun _ _ => rfl)) pe_int) pe_int) pe_int) (pg_sub (pv 0) pe_int set_list))
        (pss_one (ps_set (i := 3) sc_take.nd rfl (Or.inl rfl) (pe_op op_add (pe_op op_mul (pv 3) pe_int) (pe_op op_mod (pe_op op_mul (pe_ix ix_list (pv 0) pe_int (fun _ _ => rfl)) (pe_ix ix_list (pv 0) pe_int (fun _ _ => rfl))) pe_int))))))
      (pss_one (ps_ret (pe_op op_mod (pe_op op_fdiv (pv 3) pe_int) (pv 1)))))), ?_⟩
    refine ⟨_, rfl, p, _, 2, _, rfl, rfl, SqL.of hp, atI_nat (by rfl), _, rfl, ?_⟩
    cases c with
    | true =>
      refine iteT ?_
      refine ⟨_, rfl, p, _, 0, _, rfl, rfl, SqL.of hp, atI_nat (by rfl), ?_⟩
      walk_at "rd"
      refine ⟨p, _, 0, _, rfl, rfl, SqL.of hp, atI_nat (by rfl), ?_⟩
      walk_at "rd"
      refine ⟨p, _, 0, 0, rfl, rfl, hp, rfl, ?_⟩
      refine ⟨_, rfl, p, _, 0, _, rfl, rfl, SqL.of upd_same, atI_nat (by rfl), ?_⟩
      walk_at "rd"
      refine ⟨p, _, 2, 2, rfl, rfl, upd_same, rfl, ?_⟩
      refine ⟨_, rfl, out (a % m) _ (Int.emod_nonneg _ (by omega)) (Int.emod_lt_of_pos _ m0) (fun b o nb e => by rw [upd_ne nb, upd_ne nb]; exact e) ⟨a / m, b, _, upd_same, Int.ediv_nonneg a0 (by omega), b0, b1⟩⟩
    | false =>
      refine iteF ?_
      walk_at "rd"
      refine Or.inr ⟨_, rfl, ?_⟩
      walk_at "rd"
      refine ⟨(by show -(2 ^ 62) ≤ 1 + (if _ then (1 : Int) else 0); split <;> omega), (by show 1 + (if _ then (1 : Int) else 0) < 2 ^ 62; split <;> omega), ?_⟩
      refine for_range (fun i σ H' => ∃ (made : Int) (v : Option V), σ = [some (.ref p), some (.int m), none, some (.int made), v] ∧ But p H H' ∧ Pool H' p ∧ 0 ≤ made)
        ⟨0, none, rfl, fun b o _ e => e, ⟨a, b, false, hp, a0, b0, b1⟩, Int.le_refl 0⟩ ?_ ?_
      · rintro i σ H' hi ⟨made, v, rfl, but, ⟨a', b', c', hp', a0', b0', b1'⟩, made0⟩
        refine ⟨_, rfl, p, _, 1, _, rfl, rfl, SqL.of hp', atI_nat (by rfl), ?_⟩
        walk_at "rd"
        refine ⟨p, _, 1, 1, rfl, rfl, hp', rfl, ?_⟩
        walk_at "rd"
        refine ⟨p, _, 1, _, rfl, rfl, SqL.of upd_same, atI_nat (by rfl), ?_⟩
        walk_at "rd"
        refine ⟨p, _, 1, _, rfl, rfl, SqL.of upd_same, atI_nat (by rfl), ?_⟩
        walk_at "rd"
        refine ⟨fun b o nb e => by rw [upd_ne nb]; exact but b o nb e, ⟨a', _, c', upd_same, a0', Int.emod_nonneg _ (by decide), Int.emod_lt_of_pos _ (by decide)⟩, by omega⟩
      · rintro σ H' ⟨made, v, rfl, but, pool, made0⟩
        walk_at "rd"
        exact out (made / 64 % m) H' (Int.emod_nonneg _ (by omega)) (Int.emod_lt_of_pos _ m0) but pool
end
end K3
end

section
open PySem PySem.Spec PyProof.Rows L2 Hv
namespace K3
/-- what a class's __init__ of one thing does -/
def spInit (K : PySem.W.Frag) (newId : String) (bmB : List Value) (f : Str) : Sp := fun vs H Q _ => ∃ (a C : Addr) (y : V), vs = [.ref a, y] ∧ OexG K newId bmB C ∧ PySem.W.findIn K (.ref C) f = some none ∧
  H a = some (exo a C none) ∧ ∀ dx, H dx = none → dx ≠ a → Q .non (upd (upd H dx (exd dx [(f, y)])) a (exo a C (some dx)))
section
variable {P : Program} {w : World} {K : PySem.W.Frag} {mg : Str → Option Value} {base : Heap}
abbrev i_NoPath : Stmt := inClass (top 2) 0
theorem sc_NoPath : FnScope ["self", "thing"] ["self", "thing"] (defScope i_NoPath) :=
  ⟨rfl, rfl, rfl, by decide +kernel, rfl, by decide +kernel, by decide +kernel⟩
theorem in_NoPath {f : Addr} {fd : FuncData} (F : Fun K "__init__" "NoPath.__init__" i_NoPath f fd) : Keeps P w K mg base CX0 1 f fd ["self", "thing"] (spInit K "ValueError.__new__" [.type "ValueError", .type "Exception", .type "BaseException", .type "object"] "thing") := by
  refine keeps0 F sc_NoPath (fun vs H Q E h => ?_) (fun cdv A outer s H vs Q E hr calm h => ?_)
  · obtain ⟨a, C, y, rfl, _⟩ := h
    rfl
  · obtain ⟨a, C, y, rfl, T, no, at_a, k⟩ := h
    refine ⟨_, pss_one (ps_field1 base_value (pv 0) (pv 1)), ?_⟩
    exact ⟨_, rfl, _, rfl, a, C, rfl, T, no, at_a, fun dx fresh apart => k dx fresh apart⟩
abbrev i_NoChange : Stmt := inClass (top 3) 0
theorem sc_NoChange : FnScope ["self", "word"] ["self", "word"] (defScope i_NoChange) :=
  ⟨rfl, rfl, rfl, by decide +kernel, rfl, by decide +kernel, by decide +kernel⟩
theorem in_NoChange {f : Addr} {fd : FuncData} (F : Fun K "__init__" "NoChange.__init__" i_NoChange f fd) : Keeps P w K mg base CX0 1 f fd ["self", "word"] (spInit K "ValueError.__new__" [.type "ValueError", .type "Exception", .type "BaseException", .type "object"] "word") := by
  refine keeps0 F sc_NoChange (fun vs H Q E h => ?_) (fun cdv A outer s H vs Q E hr calm h => ?_)
  · obtain ⟨a, C, y, rfl, _⟩ := h
    rfl
  · obtain ⟨a, C, y, rfl, T, no, at_a, k⟩ := h
    refine ⟨_, pss_one (ps_field1 base_value (pv 0) (pv 1)), ?_⟩
    exact ⟨_, rfl, _, rfl, a, C, rfl, T, no, at_a, fun dx fresh apart => k dx fresh apart⟩
abbrev i_NoRow : Stmt := inClass (top 4) 0
theorem sc_NoRow : FnScope ["self", "number"] ["self", "number"] (defScope i_NoRow) :=
  ⟨rfl, rfl, rfl, by decide +kernel, rfl, by decide +kernel, by decide +kernel⟩
theorem in_NoRow {f : Addr} {fd : FuncData} (F : Fun K "__init__" "NoRow.__init__" i_NoRow f fd) : Keeps P w K mg base CX0 1 f fd ["self", "number"] (spInit K "ValueError.__new__" [.type "ValueError", .type "Exception", .type "BaseException", .type "object"] "number") := by
  refine keeps0 F sc_NoRow (fun vs H Q E h => ?_) (fun cdv A outer s H vs Q E hr calm h => ?_)
  · obtain ⟨a, C, y, rfl, _⟩ := h
    rfl
  · obtain ⟨a, C, y, rfl, T, no, at_a, k⟩ := h
    refine ⟨_, pss_one (ps_field1 base_value (pv 0) (pv 1)), ?_⟩
    exact ⟨_, rfl, _, rfl, a, C, rfl, T, no, at_a, fun dx fresh apart => k dx fresh apart⟩
abbrev i_NoMoment : Stmt := inClass (top 5) 0
theorem sc_NoMoment : FnScope ["self", "thing"] ["self", "thing"] (defScope i_NoMoment) :=
  ⟨rfl, rfl, rfl, by decide +kernel, rfl, by decide +kernel, by decide +kernel⟩
theorem in_NoMoment {f : Addr} {fd : FuncData} (F : Fun K "__init__" "NoMoment.__init__" i_NoMoment f fd) : Keeps P w K mg base CX0 1 f fd ["self", "thing"] (spInit K "ValueError.__new__" [.type "ValueError", .type "Exception", .type "BaseException", .type "object"] "thing") := by
  refine keeps0 F sc_NoMoment (fun vs H Q E h => ?_) (fun cdv A outer s H vs Q E hr calm h => ?_)
  · obtain ⟨a, C, y, rfl, _⟩ := h
    rfl
  · obtain ⟨a, C, y, rfl, T, no, at_a, k⟩ := h
    refine ⟨_, pss_one (ps_field1 base_value (pv 0) (pv 1)), ?_⟩
    exact ⟨_, rfl, _, rfl, a, C, rfl, T, no, at_a, fun dx fresh apart => k dx fresh apart⟩
abbrev i_NoThing : Stmt := inClass (top 6) 0
theorem sc_NoThing : FnScope ["self", "thing"] ["self", "thing"] (defScope i_NoThing) :=
  ⟨rfl, rfl, rfl, by decide +kernel, rfl, by decide +kernel, by decide +kernel⟩
theorem in_NoThing {f : Addr} {fd : FuncData} (F : Fun K "__init__" "NoThing.__init__" i_NoThing f fd) : Keeps P w K mg base CX0 1 f fd ["self", "thing"] (spInit K "IndexError.__new__" [.type "IndexError", .type "LookupError", .type "Exception", .type "BaseException", .type "object"] "thing") := by
  refine keeps0 F sc_NoThing (fun vs H Q E h => ?_) (fun cdv A outer s H vs Q E hr calm h => ?_)
  · obtain ⟨a, C, y, rfl, _⟩ := h
    rfl
  · obtain ⟨a, C, y, rfl, T, no, at_a, k⟩ := h
    refine ⟨_, pss_one (ps_field1 base_index (pv 0) (pv 1)), ?_⟩
    exact ⟨_, rfl, _, rfl, a, C, rfl, T, no, at_a, fun dx fresh apart => k dx fresh apart⟩
abbrev i_NoHandle : Stmt := inClass (top 7) 0
theorem sc_NoHandle : FnScope ["self", "thing"] ["self", "thing"] (defScope i_NoHandle) :=
  ⟨rfl, rfl, rfl, by decide +kernel, rfl, by decide +kernel, by decide +kernel⟩
theorem in_NoHandle {f : Addr} {fd : FuncData} (F : Fun K "__init__" "NoHandle.__init__" i_NoHandle f fd) : Keeps P w K mg base CX0 1 f fd ["self", "thing"] (spInit K "IndexError.__new__" [.type "IndexError", .type "LookupError", .type "Exception", .type "BaseException", .type "object"] "thing") := by
  refine keeps0 F sc_NoHandle (fun vs H Q E h => ?_) (fun cdv A outer s H vs Q E hr calm h => ?_)
  · obtain ⟨a, C, y, rfl, _⟩ := h
    rfl
  · obtain ⟨a, C, y, rfl, T, no, at_a, k⟩ := h
    refine ⟨_, pss_one (ps_field1 base_index (pv 0) (pv 1)), ?_⟩
    exact ⟨_, rfl, _, rfl, a, C, rfl, T, no, at_a, fun dx fresh apart => k dx fresh apart⟩
abbrev i_Fallen : Stmt := inClass (top 9) 0
theorem sc_Fallen : FnScope ["self", "since"] ["self", "since"] (defScope i_Fallen) :=
  ⟨rfl, rfl, rfl, by decide +kernel, rfl, by decide +kernel, by decide +kernel⟩
theorem in_Fallen {f : Addr} {fd : FuncData} (F : Fun K "__init__" "Fallen.__init__" i_Fallen f fd) : Keeps P w K mg base CX0 1 f fd ["self", "since"] (spInit K "RuntimeError.__new__" [.type "RuntimeError", .type "Exception", .type "BaseException", .type "object"] "since") := by
  refine keeps0 F sc_Fallen (fun vs H Q E h => ?_) (fun cdv A outer s H vs Q E hr calm h => ?_)
  · obtain ⟨a, C, y, rfl, _⟩ := h
    rfl
  · obtain ⟨a, C, y, rfl, T, no, at_a, k⟩ := h
    refine ⟨_, pss_one (ps_field1 base_runtime (pv 0) (pv 1)), ?_⟩
    exact ⟨_, rfl, _, rfl, a, C, rfl, T, no, at_a, fun dx fresh apart => k dx fresh apart⟩
end
end K3
end

section
open PySem PySem.Spec PyProof.Rows L2 Hv
namespace K3
abbrev bmV : List Value := [.type "ValueError", .type "Exception", .type "BaseException", .type "object"]
abbrev bmI : List Value := [.type "IndexError", .type "LookupError", .type "Exception", .type "BaseException", .type "object"]
abbrev bmL : List Value := [.type "LookupError", .type "Exception", .type "BaseException", .type "object"]
abbrev bmR : List Value := [.type "RuntimeError", .type "Exception", .type "BaseException", .type "object"]
/-- what the text says of a class over a built-in one, with the __init__ at fI -/
structure ClsE (K : PySem.W.Frag) (newId : String) (bmB : List Value) (C fI : Addr) (fl : List Str) : Prop where
  T : OexG K newId bmB C
  iC : PySem.W.findIn K (.ref C) "__init__" = some (some (.ref fI))
  tI : PySem.W.typeIn K (.ref fI) = some (.type "function")
  no : ∀ f ∈ fl, PySem.W.findIn K (.ref C) f = some none
  kin : ExcC K C
  xf : XfC K C
abbrev i_Fault : Stmt := inClass (top 8) 0
theorem sc_Fault : FnScope ["self", "word", "path", "gone"] ["self", "word", "path", "gone"] (defScope i_Fault) :=
  ⟨rfl, rfl, rfl, by decide +kernel, rfl, by decide +kernel, by decide +kernel⟩
def spInitF (K : PySem.W.Frag) : Sp := fun vs H Q _ => ∃ (a C : Addr) (x y z : V), vs = [.ref a, x, y, z] ∧ OexG K "LookupError.__new__" bmL C ∧ (∀ f ∈ (["word", "path", "gone"] : List Str), PySem.W.findIn K (.ref C) f = some none) ∧
  H a = some (exo a C none) ∧ ∀ dx H', H dx = none → dx ≠ a → (∀ b o, b ≠ a → H b = some o → H' b = some o) → H' a = some (exo a C (some dx)) → H' dx = some (exd dx [("gone", z), ("path", y), ("word", x)]) → Q .non H'
section
variable {P : Program} {w : World} {K : PySem.W.Frag} {mg : Str → Option Value} {base : Heap}
theorem in_Fault {f : Addr} {fd : FuncData} (F : Fun K "__init__" "Fault.__init__" i_Fault f fd) : Keeps P w K mg base CX0 1 f fd ["self", "word", "path", "gone"] (spInitF K) := by
  refine keeps0 F sc_Fault (fun vs H Q E h => ?_) (fun cdv A outer s H vs Q E hr calm h => ?_)
  · obtain ⟨a, C, x, y, z, rfl, _⟩ := h
    rfl
  · obtain ⟨a, C, x, y, z, rfl, T, no, at_a, k⟩ := h
    refine ⟨_, pss_cons (ps_field1 base_lookup (pv 0) (pv 1)) (pss_cons (ps_field2 base_lookup (pv 0) (pv 2)) (pss_one (ps_field2 base_lookup (pv 0) (pv 3)))), ?_⟩
    refine ⟨_, rfl, _, rfl, a, C, rfl, T, no _ (by simp), at_a, fun dx fresh apart => ?_⟩
    refine ⟨_, rfl, _, rfl, a, C, dx, _, rfl, T, no _ (by simp), upd_same, (by rw [upd_ne apart]; exact upd_same), (by show 1 ≤ 900; decide), ?_⟩
    refine ⟨_, rfl, _, rfl, a, C, dx, _, rfl, T, no _ (by simp), (by rw [upd_ne (Ne.symm apart)]; exact upd_same), upd_same, (by show 2 ≤ 900; decide), ?_⟩
    refine k dx _ fresh apart (fun b o nb e => ?_) ?_ upd_same
    · have nd : b ≠ dx := ne_of_none e fresh
      rw [upd_ne nd, upd_ne nd, upd_ne nb, upd_ne nd]
      exact e
    · rw [upd_ne (Ne.symm apart), upd_ne (Ne.symm apart)]
      exact upd_same
end
section
variable {X : Cx} {C fI : Addr} {fd : FuncData} {B newId initId : String} {bmB : List Value} {f arg : Str}
theorem new_exc1 (FB : BaseG B newId initId bmB) (S : ClsE X.K newId bmB C fI [f]) (F : Keeps X.prog X.w X.K X.mg X.base CX0 1 fI fd ["self", arg] (spInit X.K newId bmB f)) (room : Room 2 X.A) (calm : X.A.guards = some []) (bind : Binds X.K fd ["self", arg] []) :
    CallR X (.ref C) (fun vs H Q => ∃ y, vs = [y] ∧ ∀ a H', Same H H' → Exc H' a C [(f, y)] → Q (.ref a) H') := by
  intro pins s σ H vs us Q I r h
  obtain ⟨y, rfl, q⟩ := h
  refine callR_oexG FB S.T S.iC S.tI F room calm bind .nil pass0 pins s σ H [y] us Q I r ⟨(by show 1 ≤ 1000; decide), fun a na => ⟨a, C, y, rfl, S.T, S.no f (by simp), upd_same, fun dx nd ne => ⟨rfl, q a _ ?_ ⟨dx, upd_same, by rw [upd_ne ne]; exact upd_same⟩⟩⟩⟩
  intro b o e
  have n1 : b ≠ a := ne_of_none e na
  have n2 : b ≠ dx := fun z => by
    rw [upd_ne (by rw [← z]; exact n1)] at nd
    rw [z, nd] at e
    cases e
  rw [upd_ne n1, upd_ne n2, upd_ne n1]
  exact e
theorem new_excF (S : ClsE X.K "LookupError.__new__" bmL C fI ["word", "path", "gone"]) (F : Keeps X.prog X.w X.K X.mg X.base CX0 1 fI fd ["self", "word", "path", "gone"] (spInitF X.K)) (room : Room 2 X.A) (calm : X.A.guards = some []) (bind : Binds X.K fd ["self", "word", "path", "gone"] []) :
    CallR X (.ref C) (fun vs H Q => ∃ x y z, vs = [x, y, z] ∧ ∀ a H', Same H H' → Exc H' a C [("gone", z), ("path", y), ("word", x)] → Q (.ref a) H') := by
  intro pins s σ H vs us Q I r h
  obtain ⟨x, y, z, rfl, q⟩ := h
  refine callR_oexG base_lookup S.T S.iC S.tI F room calm bind .nil pass0 pins s σ H [x, y, z] us Q I r ⟨(by show 3 ≤ 1000; decide), fun a na => ⟨a, C, x, y, z, rfl, S.T, S.no, upd_same, fun dx H' nd ne stay e1 e2 => ⟨rfl, q a H' ?_ ⟨dx, e1, e2⟩⟩⟩⟩
  intro b o e
  have n1 : b ≠ a := ne_of_none e na
  exact stay b o n1 (by rw [upd_ne n1]; exact e)
end
end K3
end

section
open PySem PySem.Spec PyProof.Rows L2 Hv
namespace K3
/-- the eight classes, in the order of the law's looks -/
structure Cs where
  path : Addr
  change : Addr
  row : Addr
  moment : Addr
  thing : Addr
  handle : Addr
  fault : Addr
  fallen : Addr
  hist : Addr
def Cs.all (c : Cs) : List Addr := [c.path, c.change, c.row, c.moment, c.thing, c.handle, c.fault, c.fallen]
def aboveT : List (List Bool) := [[true, true, false, false, false, false], [true, true, false, false, false, false], [true, true, false, false, false, false], [true, true, false, false, false, false],
  [false, false, true, true, false, false], [false, false, true, true, false, false], [false, false, false, true, false, false], [false, false, false, false, false, true]]
structure TxtC (K : PySem.W.Frag) (mg : Str → Option Value) (c : Cs) : Prop where
  b_isi : mg "isinstance" = none
  b_int : mg "int" = none
  b_V : mg "ValueError" = none
  b_I : mg "IndexError" = none
  b_L : mg "LookupError" = none
  b_K : mg "KeyError" = none
  b_R : mg "RuntimeError" = none
  g_path : mg "NoPath" = some (.ref c.path)
  g_change : mg "NoChange" = some (.ref c.change)
  g_row : mg "NoRow" = some (.ref c.row)
  g_moment : mg "NoMoment" = some (.ref c.moment)
  g_thing : mg "NoThing" = some (.ref c.thing)
  g_handle : mg "NoHandle" = some (.ref c.handle)
  g_fault : mg "Fault" = some (.ref c.fault)
  g_fallen : mg "Fallen" = some (.ref c.fallen)
  g_hist : mg "HistoryError" = some (.ref c.hist)
  kin : ∀ C ∈ c.all, ExcC K C
  kinds : ∀ (i j : Nat) (C D : Addr), c.all[i]? = some C → c.all[j]? = some D → PySem.W.kitOne K (.ref C) (.ref D) = some (decide (j = i))
  above : ∀ (i : Nat) (C : Addr) (bs : List Bool), c.all[i]? = some C → aboveT[i]? = some bs → ∀ (j : Nat) (u : Value) (b : Bool),
    [Value.ref c.hist, .type "ValueError", .type "IndexError", .type "LookupError", .type "KeyError", .type "RuntimeError"][j]? = some u → bs[j]? = some b → PySem.W.kitOne K (.ref C) u = some b
abbrev s_kinds : Stmt := top 13
theorem sc_kinds : FnScope ["_law_error", "_law_some"] ["_law_error"] (defScope s_kinds) :=
  ⟨rfl, rfl, rfl, by decide +kernel, rfl, by decide +kernel, by decide +kernel⟩
def spKinds (K : PySem.W.Frag) (c : Cs) : Sp := fun vs H Q _ => ∃ (a C : Addr) (fs : List (Str × V)) (i : Nat), vs = [.ref a] ∧ Exc H a C fs ∧ c.all[i]? = some C ∧
  ∀ p H', Same H H' → H' p = some (.lst ((List.range 8).map fun j => V.bl (decide (j = i)))) → Q (.ref p) H'
abbrev s_above : Stmt := top 14
theorem sc_above : FnScope ["_law_error", "_law_some", "_law_one"] ["_law_error"] (defScope s_above) :=
  ⟨rfl, rfl, rfl, by decide +kernel, rfl, by decide +kernel, by decide +kernel⟩
def bI (b : Bool) : Int := if b then 1 else 0
def spAbove (K : PySem.W.Frag) (c : Cs) : Sp := fun vs H Q _ => ∃ (a C : Addr) (fs : List (Str × V)) (i : Nat) (bs : List Bool), vs = [.ref a] ∧ Exc H a C fs ∧ c.all[i]? = some C ∧ aboveT[i]? = some bs ∧
  ∀ p H', Same H H' → H' p = some (.lst (bs.map fun b => V.int (bI b))) → Q (.ref p) H'
theorem aboveT_six : ∀ (i : Nat) (bs : List Bool), aboveT[i]? = some bs → ∃ b0 b1 b2 b3 b4 b5, bs = [b0, b1, b2, b3, b4, b5] := by
  intro i bs h
  have m := List.mem_of_getElem? h
  simp only [aboveT, List.mem_cons, List.not_mem_nil, or_false] at m
  rcases m with e | e | e | e | e | e | e | e <;> exact ⟨_, _, _, _, _, _, e⟩
section
variable {P : Program} {w : World} {K : PySem.W.Frag} {mg : Str → Option Value} {base : Heap} {c : Cs}
theorem ok_kinds {f : Addr} {fd : FuncData} (F : Fun K "_law_kinds" "_law_kinds" s_kinds f fd) (T : TxtC K mg c) : Keeps P w K mg base CX0 1 f fd ["_law_error"] (spKinds K c) := by
  refine keeps0 F sc_kinds (fun vs H Q E h => ?_) (fun cdv A outer s H vs Q E hr calm h => ?_)
  · obtain ⟨a, C, fs, i, rfl, _⟩ := h
    rfl
  · obtain ⟨a, C, fs, i, rfl, ex, hi, k⟩ := h
    have kin := T.kin C (List.mem_of_getElem? hi)
    have q := fun (j : Nat) (D : Addr) (h : c.all[j]? = some D) => T.kinds i j C D hi h
    refine ⟨_, pss_cons (ps_set (i := 1) sc_kinds.nd rfl (Or.inl rfl) (pe_lst (pa_cons (pe_callB call_isX (by rfl) T.b_isi (by decide +kernel) (pa_cons (pv 0) (pa_cons (pe_glob (v := .ref c.path) (by rfl) T.g_path rfl) pa_nil)))
        (pa_cons (pe_callB call_isX (by rfl) T.b_isi (by decide +kernel) (pa_cons (pv 0) (pa_cons (pe_glob (v := .ref c.change) (by rfl) T.g_change rfl) pa_nil)))
        (pa_cons (pe_callB call_isX (by rfl) T.b_isi (by decide +kernel) (pa_cons (pv 0) (pa_cons (pe_glob (v := .ref c.row) (by rfl) T.g_row rfl) pa_nil))) pa_nil)))))
      (pss_cons (ps_set (i := 1) sc_kinds.nd rfl (Or.inl rfl) (pe_op op_cat (pv 1) (pe_lst (pa_cons (pe_callB call_isX (by rfl) T.b_isi (by decide +kernel) (pa_cons (pv 0) (pa_cons (pe_glob (v := .ref c.moment) (by rfl) T.g_moment rfl) pa_nil)))
        (pa_cons (pe_callB call_isX (by rfl) T.b_isi (by decide +kernel) (pa_cons (pv 0) (pa_cons (pe_glob (v := .ref c.thing) (by rfl) T.g_thing rfl) pa_nil)))
        (pa_cons (pe_callB call_isX (by rfl) T.b_isi (by decide +kernel) (pa_cons (pv 0) (pa_cons (pe_glob (v := .ref c.handle) (by rfl) T.g_handle rfl) pa_nil))) pa_nil))))))
      (pss_one (ps_ret (pe_op op_cat (pv 1) (pe_lst (pa_cons (pe_callB call_isX (by rfl) T.b_isi (by decide +kernel) (pa_cons (pv 0) (pa_cons (pe_glob (v := .ref c.fault) (by rfl) T.g_fault rfl) pa_nil)))
        (pa_cons (pe_callB call_isX (by rfl) T.b_isi (by decide +kernel) (pa_cons (pv 0) (pa_cons (pe_glob (v := .ref c.fallen) (by rfl) T.g_fallen rfl) pa_nil))) pa_nil))))))), ?_⟩
    refine ⟨_, rfl, a, C, fs, _, _, _, rfl, ex, kin, .own _, q 0 _ rfl, ?_⟩
    refine ⟨_, rfl, a, C, fs, _, _, _, rfl, ex, kin, .own _, q 1 _ rfl, ?_⟩
    refine ⟨_, rfl, a, C, fs, _, _, _, rfl, ex, kin, .own _, q 2 _ rfl, ?_⟩
    refine ⟨(by show 3 ≤ sizeLine; decide), fun p1 z1 => ?_⟩
    generalize hG : upd _ p1 _ = G1
    obtain ⟨g1, x1⟩ := newG hG z1
    clear hG
    have ex1 := same_exc g1 ex
    refine ⟨_, rfl, _, rfl, a, C, fs, _, _, _, rfl, ex1, kin, .own _, q 3 _ rfl, ?_⟩
    refine ⟨_, rfl, a, C, fs, _, _, _, rfl, ex1, kin, .own _, q 4 _ rfl, ?_⟩
    refine ⟨_, rfl, a, C, fs, _, _, _, rfl, ex1, kin, .own _, q 5 _ rfl, ?_⟩
    refine ⟨(by show 3 ≤ sizeLine; decide), fun p2 z2 => ?_⟩
    generalize hG : upd _ p2 _ = G2
    obtain ⟨g2, x2⟩ := newG hG z2
    clear hG
    refine ⟨p1, p2, _, _, rfl, rfl, g2 _ _ x1, x2, (by show 3 + 3 ≤ sizeLine; decide), fun p3 z3 => ?_⟩
    generalize hG : upd _ p3 _ = G3
    obtain ⟨g3, x3⟩ := newG hG z3
    clear hG
    have ex3 := same_exc (g2.trans g3) ex1
    refine ⟨_, rfl, _, rfl, a, C, fs, _, _, _, rfl, ex3, kin, .own _, q 6 _ rfl, ?_⟩
    refine ⟨_, rfl, a, C, fs, _, _, _, rfl, ex3, kin, .own _, q 7 _ rfl, ?_⟩
    refine ⟨(by show 2 ≤ sizeLine; decide), fun p4 z4 => ?_⟩
    generalize hG : upd _ p4 _ = G4
    obtain ⟨g4, x4⟩ := newG hG z4
    clear hG
    refine ⟨p3, p4, _, _, rfl, rfl, g4 _ _ x3, x4, (by show 6 + 2 ≤ sizeLine; decide), fun p5 z5 => ?_⟩
    exact k p5 _ ((((g1.trans g2).trans g3).trans g4).trans (same_new z5)) upd_same
theorem ok_above {f : Addr} {fd : FuncData} (F : Fun K "_law_above" "_law_above" s_above f fd) (T : TxtC K mg c) : Keeps P w K mg base CX0 1 f fd ["_law_error"] (spAbove K c) := by
  refine keeps0 F sc_above (fun vs H Q E h => ?_) (fun cdv A outer s H vs Q E hr calm h => ?_)
  · obtain ⟨a, C, fs, i, bs, rfl, _⟩ := h
    rfl
  · obtain ⟨a, C, fs, i, bs, rfl, ex, hi, hb, k⟩ := h
    have kin := T.kin C (List.mem_of_getElem? hi)
    obtain ⟨b0, b1, b2, b3, b4, b5, rfl⟩ := aboveT_six i bs hb
    have q := T.above i C _ hi hb
    refine ⟨_, pss_cons (ps_set (i := 1) sc_above.nd rfl (Or.inl rfl) (pe_lst (pa_cons (pe_callB call_isX (by rfl) T.b_isi (by decide +kernel) (pa_cons (pv 0) (pa_cons (pe_glob (v := .ref c.hist) (by rfl) T.g_hist rfl) pa_nil)))
        (pa_cons (pe_callB call_isX (by rfl) T.b_isi (by decide +kernel) (pa_cons (pv 0) (pa_cons (pe_bltn (v := .ty "ValueError") (by rfl) T.b_V (by decide +kernel) rfl) pa_nil)))
        (pa_cons (pe_callB call_isX (by rfl) T.b_isi (by decide +kernel) (pa_cons (pv 0) (pa_cons (pe_bltn (v := .ty "IndexError") (by rfl) T.b_I (by decide +kernel) rfl) pa_nil))) pa_nil)))))
      (pss_cons (ps_set (i := 1) sc_above.nd rfl (Or.inl rfl) (pe_op op_cat (pv 1) (pe_lst (pa_cons (pe_callB call_isX (by rfl) T.b_isi (by decide +kernel) (pa_cons (pv 0) (pa_cons (pe_bltn (v := .ty "LookupError") (by rfl) T.b_L (by decide +kernel) rfl) pa_nil)))
        (pa_cons (pe_callB call_isX (by rfl) T.b_isi (by decide +kernel) (pa_cons (pv 0) (pa_cons (pe_bltn (v := .ty "KeyError") (by rfl) T.b_K (by decide +kernel) rfl) pa_nil)))
        (pa_cons (pe_callB call_isX (by rfl) T.b_isi (by decide +kernel) (pa_cons (pv 0) (pa_cons (pe_bltn (v := .ty "RuntimeError") (by rfl) T.b_R (by decide +kernel) rfl) pa_nil))) pa_nil))))))
      (pss_one (ps_ret (pe_lc (own := [("_law_one", 2)]) (g := gName 2) (tt := tYes) rfl sc_above.nd (pi_list (pv 1)) (blkOk_by (N := ["_law_error", "_law_some", "_law_one"]) (sc := defScope s_above) (by decide +kernel))
          (fun _ _ _ _ _ => pg_name (i := 2) sc_above.nd rfl (Or.inl rfl)) (fun _ _ _ _ _ => pts_nil) (fun _ _ _ _ _ => pe_callTy call_int1 (by rfl) T.b_int (by decide +kernel) (pa_cons (pv 2) pa_nil)))))), ?_⟩
    refine ⟨_, rfl, a, C, fs, _, _, _, rfl, ex, kin, .own _, q 0 _ _ rfl rfl, ?_⟩
    refine ⟨_, rfl, a, C, fs, _, _, _, rfl, ex, kin, .ty _, q 1 _ _ rfl rfl, ?_⟩
    refine ⟨_, rfl, a, C, fs, _, _, _, rfl, ex, kin, .ty _, q 2 _ _ rfl rfl, ?_⟩
    refine ⟨(by show 3 ≤ sizeLine; decide), fun p1 z1 => ?_⟩
    generalize hG : upd _ p1 _ = G1
    obtain ⟨g1, x1⟩ := newG hG z1
    clear hG
    have ex1 := same_exc g1 ex
    refine ⟨_, rfl, _, rfl, a, C, fs, _, _, _, rfl, ex1, kin, .ty _, q 3 _ _ rfl rfl, ?_⟩
    refine ⟨_, rfl, a, C, fs, _, _, _, rfl, ex1, kin, .ty _, q 4 _ _ rfl rfl, ?_⟩
    refine ⟨_, rfl, a, C, fs, _, _, _, rfl, ex1, kin, .ty _, q 5 _ _ rfl rfl, ?_⟩
    refine ⟨(by show 3 ≤ sizeLine; decide), fun p2 z2 => ?_⟩
    generalize hG : upd _ p2 _ = G2
    obtain ⟨g2, x2⟩ := newG hG z2
    clear hG
    refine ⟨p1, p2, _, _, rfl, rfl, g2 _ _ x1, x2, (by show 3 + 3 ≤ sizeLine; decide), fun p3 z3 => ?_⟩
    generalize hG : upd _ p3 _ = G3
    obtain ⟨g3, x3⟩ := newG hG z3
    clear hG
    refine ⟨_, rfl, p3, rfl, ⟨_, SqL.of x3⟩, fun D nD => ?_⟩
    refine lc_any (f := fun x => match x with | .bl b => some (.int (bI b)) | _ => none) (gives_list (SqL.of x3)) nD (by show 6 ≤ sizeLine; decide) (fun x H' Post mem sm y1 y2 => ?_) fun H' sm at_D => ?_
    · obtain ⟨b, rfl⟩ : ∃ b, x = .bl b := by
        simp only [List.cons_append, List.nil_append, List.mem_cons, List.not_mem_nil, or_false] at mem
        rcases mem with e | e | e | e | e | e <;> exact ⟨_, e⟩
      exact ⟨rfl, _, rfl, Or.inr ⟨_, rfl, y1 _ H' rfl (Same.refl H')⟩⟩
    · exact k D H' (((g1.trans g2).trans g3).trans sm) at_D
end
end K3
end

section
open PySem PySem.Spec PyProof.Rows L2 Hv
namespace Hv
theorem for_enum {K : PySem.W.Frag} {a : Addr} {xs : List V} {g : TG} {tb : TS} {D : Ends} {σ : L2.St} {H : Hp} (Pv : Nat → L2.St → Hp → Prop) (h0 : Pv 0 σ H) (hl : ∀ i σ H, i ≤ xs.length → Pv i σ H → SqL K H a xs)
    (hs : ∀ (i : Nat) (x : V) (T : Addr) (σ : L2.St) (H : Hp), xs[i]? = some x → Pv i σ H → H T = none → g (.ref T) σ (upd H T (.tup [.int (i : Nat), x])) fun σ2 H2 => tb { D with nx := Pv (i + 1), ct := Pv (i + 1), bk := D.nx } σ2 H2) (hd : ∀ σ H, Pv xs.length σ H → D.nx σ H) :
    ∃ W : Nat → Nat → L2.St → Hp → Prop, (∃ m, W 0 m σ H) ∧ ∀ i m σ H, W i m σ H →
      ((Ite K a).stop i H ∧ D.nx σ H) ∨ ((Ite K a).go i H ∧ ∃ N : L2.St → Hp → Prop, (∀ σ' H', N σ' H' → ∃ m', m' < m ∧ W (i + 1) m' σ' H') ∧ ∀ x H', (Ite K a).yld i H x H' → g x σ H' fun σ2 H2 => tb { D with nx := N, ct := N, bk := D.nx } σ2 H2) := by
  refine ⟨fun i m σ H => m = xs.length - i ∧ i ≤ xs.length ∧ Pv i σ H, ⟨_, rfl, Nat.zero_le _, h0⟩, ?_⟩
  rintro i m σ H ⟨rfl, hi, p⟩
  have q := hl i σ H hi p
  by_cases lt : i < xs.length
  · refine .inr ⟨⟨xs, xs[i], q, by simp [lt]⟩, Pv (i + 1), fun σ' H' p' => ⟨_, by omega, rfl, lt, p'⟩, fun x H' y => ?_⟩
    obtain ⟨T, v, rfl, nT, rfl, y⟩ := y
    exact hs i v T σ H (y xs q) p nT
  · obtain rfl : i = xs.length := by omega
    exact .inl ⟨⟨xs, q, Nat.le_refl _⟩, hd σ H p⟩
mutual
theorem same_dn {K : PySem.W.Frag} {H H' : Hp} (s : Same H H') : ∀ (d : PyData) (v : V), Dn K H v d → Dn K H' v d
  | .none, _, h => by cases h; exact .non
  | .bool b, _, h => by cases h; exact .bl b
  | .int i, _, h => by cases h; exact .int i
  | .str z, _, h => by cases h; exact .str z
  | .list ds, _, h => by
    cases h with
    | lst q ne a => exact .lst (s.seq q) ne (same_dnAll s ds _ a)
  | .tuple ds, _, h => by
    cases h with
    | tup q a => exact .tup (same_tup s q) (same_dnAll s ds _ a)
  | .dict _, _, h => by
    cases h with
    | emp e => exact .emp (s _ _ e)
theorem same_dnAll {K : PySem.W.Frag} {H H' : Hp} (s : Same H H') : ∀ (ds : List PyData) (vs : List V), DnAll K H vs ds → DnAll K H' vs ds
  | [], _, h => by cases h; exact .nil
  | d :: ds, _, h => by
    cases h with
    | cons a b => exact .cons (same_dn s d _ a) (same_dnAll s ds _ b)
end
theorem dn_mem {K : PySem.W.Frag} {H : Hp} : ∀ {xs : List V} {ds : List PyData} {x : V}, DnAll K H xs ds → x ∈ xs → ∃ d ∈ ds, Dn K H x d
  | _, _, _, .nil, m => nomatch m
  | _, _, _, .cons a r, m => by
    rcases List.mem_cons.mp m with e | e
    · rw [e]; exact ⟨_, List.mem_cons_self .., a⟩
    · obtain ⟨d, hd, h⟩ := dn_mem r e
      exact ⟨d, List.mem_cons_of_mem _ hd, h⟩
theorem dp_map {K : PySem.W.Frag} {H : Hp} {α : Type} (f : α → V) (g : α → PyData) (h : ∀ x, Dp K H (f x) (g x)) : ∀ xs : List α, DpAll K H (xs.map f) (xs.map g)
  | [] => .nil
  | x :: xs => .cons (h x) (dp_map f g h xs)
/-- a leaf or a small thing -/
structure OkN (d : PyData) : Prop where
  sh : d.showable = true
  le : d.leavesShort 40 = true
  dp : d.depth ≤ 2
  bk : d.bulk ≤ 10
theorem okN_int {i : Int} (h : i.natAbs < 10 ^ 21) : OkN (.int i) := by
  refine ⟨?_, ?_, by simp only [PyData.depth]; omega, by simp only [PyData.bulk]; omega⟩
  · simp only [PyData.showable]
    refine decide_eq_true ?_
    by_cases z : i.natAbs = 0
    · rw [z]; decide
    · exact Nat.lt_of_lt_of_le ((Nat.log2_lt z).mpr (Nat.lt_trans h (show 10 ^ 21 < 2 ^ 100 by decide))) (by decide)
  · simp only [PyData.leavesShort]
    refine decide_eq_true ?_
    have e := int_text_length_le10 (k := 21) (by decide) h
    show (Str.ofString (toString i)).length ≤ 40
    rw [PySem.ofString_length]
    omega
end Hv
namespace K3
theorem gives_rngD {H : Hp} {n : Nat} : Hv.GivesR (Itr 0 n) H (List.range n) (fun i v _ => v = .int (i : Int)) where
  go := fun i H' s lt => gives_rng.go i H' s (by simpa using lt)
  yld := fun i H' x H'' s y lt => by
    obtain ⟨rfl, e⟩ := (gives_rng (H := H)).yld i H' x H'' s y (by simpa using lt)
    have lt' : i < n := by simpa using lt
    refine ⟨Same.refl _, i, by simp [lt'], ?_⟩
    simp [lt'] at e
    rw [← e]
  stop := fun H' s => by
    have := (gives_rng (H := H) (lo := 0) (n := n)).stop H' s
    simpa using this
theorem int_eq (n m : Nat) : decide (V.int (n : Int) = V.int (m : Int)) = decide (n = m) := decide_eq_decide.mpr ⟨fun h => by injection h with h; omega, fun h => by rw [h]⟩
def kindD (i : Nat) : PyData := .list ((List.range 8).map fun j => .bool (decide (j = i)))
def rowD (bs : List Bool) : PyData := .list (bs.map fun b => .int (bI b))
theorem kindD_ok : ∀ i < 8, PyData.eqv (kindD i) (kindD i) = true ∧ SeqAt.shaped (kindD i) = true := by decide +kernel
theorem rowD_ok : ∀ bs ∈ aboveT, PyData.eqv (rowD bs) (rowD bs) = true ∧ SeqAt.shaped (rowD bs) = true := by decide +kernel
theorem lk_one {f : Str} {v : V} : ([(f, v)] : List (Str × V)).lookup f = some v := by simp [List.lookup]
theorem lk_skip {f g : Str} {v : V} {r : List (Str × V)} (h : (f == g) = false) : ((g, v) :: r).lookup f = r.lookup f := by rw [List.lookup_cons, h]
theorem lk_head {f : Str} {v : V} {r : List (Str × V)} : ((f, v) :: r).lookup f = some v := by rw [List.lookup_cons]; simp
theorem But.trans {p : Addr} {H H1 H2 : Hp} (a : But p H H1) (b : But p H1 H2) : But p H H2 := fun c o n e => b c o n (a c o n e)
theorem But.refl (p : Addr) (H : Hp) : But p H H := fun _ _ _ e => e
theorem But.of {p : Addr} {H H' : Hp} (s : Same H H') : But p H H' := fun c o _ e => s c o e
theorem Pool.same {H H' : Hp} {p : Addr} (s : Same H H') (h : Pool H p) : Pool H' p := let ⟨a, b, c, e, r⟩ := h; ⟨a, b, c, s _ _ e, r⟩
theorem same_but {p : Addr} {H H1 H2 : Hp} (s : Same H H1) (n : H p = none) (b : But p H1 H2) : Same H H2 := fun c o e =>
  b c o (fun z => by rw [z, n] at e; cases e) (s c o e)
theorem but_put {p q : Addr} {H H' : Hp} {o : HO} (s : But p H H') (h : H q = none) : But p H (upd H' q o) := fun b u n e => by
  rw [upd_ne (ne_of_none e h)]; exact s b u n e
theorem Pool.ne {H : Hp} {p q : Addr} (h : Pool H p) (n : H q = none) : q ≠ p := by
  rintro rfl
  obtain ⟨a, b, c, e, _⟩ := h
  rw [n] at e; cases e
theorem Pool.put {H : Hp} {p q : Addr} {o : HO} (h : Pool H p) (n : q ≠ p) : Pool (upd H q o) p := by
  obtain ⟨a, b, c, e, r⟩ := h
  exact ⟨a, b, c, by rw [upd_ne (Ne.symm n)]; exact e, r⟩
/-- the heap without p -/
def Hx (p : Addr) (H : Hp) : Hp := fun b => if b = p then none else H b
theorem hx_at {p b : Addr} {H : Hp} {o : HO} (n : b ≠ p) (e : H b = some o) : Hx p H b = some o := by
  unfold Hx; rw [if_neg n]; exact e
theorem hx_but {p : Addr} {H H' : Hp} (h : But p H H') : Same (Hx p H) (Hx p H') := fun b o e => by
  unfold Hx at e
  split at e
  · cases e
  · next n => exact hx_at n (h b o n e)
theorem hx_sub (p : Addr) (H : Hp) : Same (Hx p H) H := fun b o e => by
  unfold Hx at e
  split at e
  · cases e
  · exact e
end K3
end

section
open PySem PySem.Spec PyProof.Rows L2 Hv
local macro_rules | `(tactic| walk_at "rd") => `(tactic| repeat (first
  | refine ⟨_, rfl, ?_⟩
  | refine ⟨_, _, rfl, rfl, ?_⟩
  | refine ⟨_, _, rfl, ?_⟩
  | refine And.intro (show CPow _ _ from ⟨by decide, by decide, by decide⟩) ?_))
namespace K3
abbrev s_law : Stmt := top 15
theorem sc_law : FnScope ["_law_script", "_law_state", "_law_odd", "_law_one", "_law_two", "_law_three", "_law_some", "_law_due", "_law_number", "_law_error", "_law_told", "_law_at"] ["_law_script"] (defScope s_law) :=
  ⟨rfl, rfl, rfl, by decide +kernel, rfl, by decide +kernel, by decide +kernel⟩
def spLaw (K : PySem.W.Frag) : Sp := fun vs H Q _ => ∃ (q : Addr) (ns : List Int), vs = [.ref q] ∧ SqL K H q (ns.map V.int) ∧ ns.length ≤ 63 ∧ ∀ H', Q (.bl true) H'
structure Is where
  path : Addr
  change : Addr
  row : Addr
  moment : Addr
  thing : Addr
  handle : Addr
  fault : Addr
  fallen : Addr
structure Fs where
  begun : Addr
  take : Addr
  kinds : Addr
  above : Addr
structure TxtL (K : PySem.W.Frag) (mg : Str → Option Value) (c : Cs) (n : Is) (l : Fs) : Prop where
  b_enum : mg "enumerate" = none
  b_range : mg "range" = none
  b_repr : mg "repr" = none
  g_begun : mg "_law_begun" = some (.ref l.begun)
  g_take : mg "_law_take" = some (.ref l.take)
  g_kinds : mg "_law_kinds" = some (.ref l.kinds)
  g_above : mg "_law_above" = some (.ref l.above)
  k_begun : PySem.W.keepIn K (.ref l.begun) = true
  k_take : PySem.W.keepIn K (.ref l.take) = true
  k_kinds : PySem.W.keepIn K (.ref l.kinds) = true
  k_above : PySem.W.keepIn K (.ref l.above) = true
  c_path : ClsE K "ValueError.__new__" bmV c.path n.path ["thing"]
  c_change : ClsE K "ValueError.__new__" bmV c.change n.change ["word"]
  c_row : ClsE K "ValueError.__new__" bmV c.row n.row ["number"]
  c_moment : ClsE K "ValueError.__new__" bmV c.moment n.moment ["thing"]
  c_thing : ClsE K "IndexError.__new__" bmI c.thing n.thing ["thing"]
  c_handle : ClsE K "IndexError.__new__" bmI c.handle n.handle ["thing"]
  c_fault : ClsE K "LookupError.__new__" bmL c.fault n.fault ["word", "path", "gone"]
  c_fallen : ClsE K "RuntimeError.__new__" bmR c.fallen n.fallen ["since"]
section
variable {P : Program} {w : World} {K : PySem.W.Frag} {mg : Str → Option Value} {base : Heap} {c : Cs} {n : Is} {l : Fs}
theorem ok_law {f : Addr} {fd f1 f2 f3 f4 e1 e2 e3 e4 e5 e6 e7 e8 : FuncData} (F : Fun K "law" "law" s_law f fd) (T : TxtC K mg c) (L : TxtL K mg c n l)
    (G1 : Keeps P w K mg base CX0 1 l.begun f1 ["_law_script", "_law_k"] (spBegun K)) (b1 : Binds K f1 ["_law_script", "_law_k"] [])
    (G2 : Keeps P w K mg base CX0 1 l.take f2 ["_law_state", "_law_many"] spTake) (b2 : Binds K f2 ["_law_state", "_law_many"] [])
    (G3 : Keeps P w K mg base CX0 1 l.kinds f3 ["_law_error"] (spKinds K c)) (b3 : Binds K f3 ["_law_error"] [])
    (G4 : Keeps P w K mg base CX0 1 l.above f4 ["_law_error"] (spAbove K c)) (b4 : Binds K f4 ["_law_error"] [])
    (I1 : Keeps P w K mg base CX0 1 n.path e1 ["self", "thing"] (spInit K "ValueError.__new__" bmV "thing")) (j1 : Binds K e1 ["self", "thing"] [])
    (I2 : Keeps P w K mg base CX0 1 n.change e2 ["self", "word"] (spInit K "ValueError.__new__" bmV "word")) (j2 : Binds K e2 ["self", "word"] [])
    (I3 : Keeps P w K mg base CX0 1 n.row e3 ["self", "number"] (spInit K "ValueError.__new__" bmV "number")) (j3 : Binds K e3 ["self", "number"] [])
    (I4 : Keeps P w K mg base CX0 1 n.moment e4 ["self", "thing"] (spInit K "ValueError.__new__" bmV "thing")) (j4 : Binds K e4 ["self", "thing"] [])
    (I5 : Keeps P w K mg base CX0 1 n.thing e5 ["self", "thing"] (spInit K "IndexError.__new__" bmI "thing")) (j5 : Binds K e5 ["self", "thing"] [])
    (I6 : Keeps P w K mg base CX0 1 n.handle e6 ["self", "thing"] (spInit K "IndexError.__new__" bmI "thing")) (j6 : Binds K e6 ["self", "thing"] [])
    (I7 : Keeps P w K mg base CX0 1 n.fault e7 ["self", "word", "path", "gone"] (spInitF K)) (j7 : Binds K e7 ["self", "word", "path", "gone"] [])
    (I8 : Keeps P w K mg base CX0 1 n.fallen e8 ["self", "since"] (spInit K "RuntimeError.__new__" bmR "since")) (j8 : Binds K e8 ["self", "since"] []) :
    Keeps P w K mg base CX0 3 f fd ["_law_script"] (spLaw K) := by
  refine keeps0 F sc_law (fun vs H Q E h => ?_) (fun cdv A outer s H vs Q E hr calm h => ?_)
  · obtain ⟨q, ns, rfl, _⟩ := h
    rfl
  · obtain ⟨q, ns, rfl, sq, few, k⟩ := h
    have r1 : Room 1 _ := hr.mono (by decide)
    refine ⟨_, pss_cons (ps_set (i := 1) sc_law.nd rfl (Or.inl rfl) (pe_v (callR_fn G1 r1 calm b1 .nil pass0) (by rfl) L.g_begun L.k_begun (pa_cons (pv 0) (pa_cons pe_int pa_nil))))
      (pss_cons (ps_set (i := 2) sc_law.nd rfl (Or.inl rfl) (pe_lst (pa_cons pe_non (pa_cons pe_bl (pa_cons pe_str (pa_cons pe_str (pa_cons (pe_tup (pa_cons pe_int (pa_cons pe_int pa_nil))) (pa_cons (pe_lstN (pa_cons pe_int pa_nil)) (pa_cons pe_dnewK
        (pa_cons (pe_v (callR_fn G2 r1 calm b2 .nil pass0) (by rfl) L.g_take L.k_take (pa_cons (pv 1) (pa_cons (pe_op op_pow pe_int pe_int) pa_nil))) (pa_cons (pe_op op_pow pe_int pe_int) pa_nil)))))))))))
      (pss_cons (ps_par3 (i := 3) (j := 4) (l := 5) (by rfl) sc_law.nd rfl rfl rfl (by decide) (by decide) (by decide) rfl rfl rfl (pa_cons (pe_ix ix_list (pv 2) (pe_v (callR_fn G2 r1 calm b2 .nil pass0) (by rfl) L.g_take L.k_take (pa_cons (pv 1) (pa_cons pe_int pa_nil))) (fun _ _ => rfl)) (pa_cons (pe_ix ix_list (pv 2) (pe_v (callR_fn G2 r1 calm b2 .nil pass0) (by rfl) L.g_take L.k_take (pa_cons (pv 1) (pa_cons pe_int pa_nil))) (fun _ _ => rfl)) (pa_cons (pe_ix ix_list (pv 2) (pe_v (callR_fn G2 r1 calm b2 .nil pass0) (by rfl) L.g_take L.k_take (pa_cons (pv 1) (pa_cons pe_int pa_nil))) (fun _ _ => rfl)) pa_nil))) (by rfl))
      (pss_cons (ps_set (i := 6) sc_law.nd rfl (Or.inl rfl) (pe_lst (pa_cons (pe_v (new_exc1 base_value L.c_path I1 hr calm j1) (by rfl) T.g_path L.c_path.T.kC (pa_cons (pv 3) pa_nil))
        (pa_cons (pe_v (new_exc1 base_value L.c_change I2 hr calm j2) (by rfl) T.g_change L.c_change.T.kC (pa_cons (pv 3) pa_nil))
        (pa_cons (pe_v (new_exc1 base_value L.c_row I3 hr calm j3) (by rfl) T.g_row L.c_row.T.kC (pa_cons (pv 3) pa_nil))
        (pa_cons (pe_v (new_exc1 base_value L.c_moment I4 hr calm j4) (by rfl) T.g_moment L.c_moment.T.kC (pa_cons (pv 3) pa_nil))
        (pa_cons (pe_v (new_exc1 base_index L.c_thing I5 hr calm j5) (by rfl) T.g_thing L.c_thing.T.kC (pa_cons (pv 3) pa_nil))
        (pa_cons (pe_v (new_exc1 base_index L.c_handle I6 hr calm j6) (by rfl) T.g_handle L.c_handle.T.kC (pa_cons (pv 3) pa_nil)) pa_nil))))))))
      (pss_cons (ps_set (i := 6) sc_law.nd rfl (Or.inl rfl) (pe_op op_cat (pv 6) (pe_lst (pa_cons (pe_v (new_excF L.c_fault I7 hr calm j7) (by rfl) T.g_fault L.c_fault.T.kC (pa_cons (pv 3) (pa_cons (pv 4) (pa_cons (pv 5) pa_nil))))
        (pa_cons (pe_v (new_exc1 base_runtime L.c_fallen I8 hr calm j8) (by rfl) T.g_fallen L.c_fallen.T.kC (pa_cons (pv 3) pa_nil)) pa_nil)))))
      (pss_cons (ps_set (i := 7) sc_law.nd rfl (Or.inl rfl) (pe_op op_cat (pe_op op_cat (pe_op op_rep (pe_lst (pa_cons (pe_lst (pa_cons pe_int (pa_cons pe_int (pa_cons pe_int (pa_cons pe_int (pa_cons pe_int (pa_cons pe_int pa_nil))))))) pa_nil)) pe_int)
          (pe_op op_rep (pe_lst (pa_cons (pe_lst (pa_cons pe_int (pa_cons pe_int (pa_cons pe_int (pa_cons pe_int (pa_cons pe_int (pa_cons pe_int pa_nil))))))) pa_nil)) pe_int))
          (pe_lst (pa_cons (pe_lst (pa_cons pe_int (pa_cons pe_int (pa_cons pe_int (pa_cons pe_int (pa_cons pe_int (pa_cons pe_int pa_nil))))))) (pa_cons (pe_lst (pa_cons pe_int (pa_cons pe_int (pa_cons pe_int (pa_cons pe_int (pa_cons pe_int (pa_cons pe_int pa_nil))))))) pa_nil)))))
      (pss_cons (ps_for PassesOwn.never rfl (pi_enum (by rfl) L.b_enum (pa_cons (pv 6) pa_nil)) (pg_tup (n := 2) rfl (pgs_cons (pg_name (i := 8) sc_law.nd rfl (Or.inr rfl)) (pgs_cons (pg_name (i := 9) sc_law.nd rfl (Or.inl rfl)) pgs_nil)))
        (pss_one (ps_if (PW.pt (pw_or (pt_cmpR (op_neD (hu_of' hr)) (pe_v (callR_fn G3 r1 calm b3 .nil pass0) (by rfl) L.g_kinds L.k_kinds (pa_cons (pv 9) pa_nil))
            (pe_lc (own := [("_law_at", 11)]) (g := gName 11) (tt := tYes) rfl sc_law.nd (pi_range1 (by rfl) L.b_range (pa_cons pe_int pa_nil)) (blkOk_by (N := ["_law_script", "_law_state", "_law_odd", "_law_one", "_law_two", "_law_three", "_law_some", "_law_due", "_law_number", "_law_error", "_law_told", "_law_at"]) (sc := defScope s_law) (by decide +kernel))
              (fun _ _ _ _ _ => pg_name (i := 11) sc_law.nd rfl (Or.inl rfl)) (fun _ _ _ _ _ => pts_nil) (fun _ _ _ _ _ => pe_cmpR op_eq (pv 11) (pv 8) (nomark _))) (nomark _))
          (pw_or1 (pt_cmpR (op_neD (hu_of' hr)) (pe_v (callR_fn G4 r1 calm b4 .nil pass0) (by rfl) L.g_above L.k_above (pa_cons (pv 9) pa_nil)) (pe_ix ix_list (pv 7) (pv 8) (fun _ _ => rfl)) (nomark _))))) (pss_one (ps_ret pe_bl)) pss_nil)))
      (pss_cons (ps_set (i := 10) sc_law.nd rfl (Or.inl rfl) (pe_lst (pa_cons (pe_excF (pe_ix ix_list (pv 6) pe_int (fun _ _ => rfl))) (pa_cons (pe_excF (pe_ix ix_list (pv 6) pe_int (fun _ _ => rfl))) (pa_cons (pe_excF (pe_ix ix_list (pv 6) pe_int (fun _ _ => rfl)))
        (pa_cons (pe_excF (pe_ix ix_list (pv 6) pe_int (fun _ _ => rfl))) (pa_cons (pe_excF (pe_ix ix_list (pv 6) pe_int (fun _ _ => rfl))) (pa_cons (pe_excF (pe_ix ix_list (pv 6) pe_int (fun _ _ => rfl))) pa_nil))))))))
      (pss_cons (ps_set (i := 10) sc_law.nd rfl (Or.inl rfl) (pe_op op_catN (pv 10) (pe_lst (pa_cons (pe_excF (pe_ix ix_list (pv 6) pe_int (fun _ _ => rfl))) (pa_cons (pe_excF (pe_ix ix_list (pv 6) pe_int (fun _ _ => rfl))) (pa_cons (pe_excF (pe_ix ix_list (pv 6) pe_int (fun _ _ => rfl)))
        (pa_cons (pe_excF (pe_ix ix_list (pv 6) pe_int (fun _ _ => rfl))) pa_nil)))))))
      (pss_one (ps_ret (pe_cmpR op_eq (pe_callB (call_reprN calm (hu_rep hr)) (by rfl) L.b_repr (by decide +kernel) (pa_cons (pv 10) pa_nil))
        (pe_callB (call_reprN calm (hu_rep hr)) (by rfl) L.b_repr (by decide +kernel) (pa_cons (pe_op op_catN (pe_op op_rep (pe_lst (pa_cons (pv 3) pa_nil)) pe_int) (pe_lst (pa_cons (pv 4) (pa_cons (pv 5) (pa_cons (pv 3) pa_nil))))) pa_nil)) (nomark _)))))))))))), ?_⟩
    refine ⟨_, rfl, q, ns, 0, rfl, sq, few, (by omega), (by omega), fun p Hb np sb pool => ?_⟩
    refine ⟨(by show 2 ≤ sizeLine; decide), fun t1 z1 => ?_⟩
    generalize hG : upd _ t1 _ = J1
    obtain ⟨m1, x1⟩ := newG hG z1
    clear hG
    refine ⟨(by show 1 ≤ sizeLine; decide), fun l3 z2 ne3 => ?_⟩
    generalize hG : upd _ l3 _ = J2
    obtain ⟨m2, x2⟩ := newG hG z2
    clear hG
    refine fun d z3 => ?_
    generalize hG : upd _ d _ = J3
    obtain ⟨m3, x3⟩ := newG hG z3
    clear hG
    have s3 := (m1.trans m2).trans m3
    have n1 : t1 ≠ p := pool.ne z1
    have n2 : l3 ≠ p := (pool.same m1).ne z2
    have n3 : d ≠ p := (pool.same (m1.trans m2)).ne z3
    walk_at "rd"
    refine ⟨pool.same s3, (by decide), (by decide), fun r H4 r0 r1 but4 pool4 => ?_⟩
    have rM : r < 1000000 := r1
    walk_at "rd"
    refine ⟨(by show 9 ≤ sizeLine; decide), fun l9 z5 => ?_⟩
    generalize hG : upd _ l9 _ = J5
    obtain ⟨m5, x5⟩ := newG hG z5
    clear hG
    have c5 : But p Hb J5 := ((But.of s3).trans but4).trans (But.of m5)
    have pool5 := pool4.same m5
    have n5 : l9 ≠ p := pool4.ne z5
    have dn : DnAll K (Hx p J5) [V.non, .bl true, .str "", .str "a\n", .ref t1, .ref l3, .ref d, .int r, .int (10 ^ 20)] [.none, .bool true, .str "", .str "a\n", .tuple [.int 1, .int 2], .list [.int 3], .dict [], .int r, .int (10 ^ 20)] := by
      have b45 : But p J3 J5 := but4.trans (But.of m5)
      refine .cons .non (.cons (.bl _) (.cons (.str _) (.cons (.str _) ?_)))
      refine .cons (.tup (.inl (.inl (hx_at n1 (b45 _ _ n1 (m3 _ _ (m2 _ _ x1)))))) (.cons (.int _) (.cons (.int _) .nil))) ?_
      refine .cons (.lst (.inl (.inl (hx_at n2 (b45 _ _ n2 (m3 _ _ x2))))) ne3 (.cons (.int _) .nil)) ?_
      exact .cons (.emp (hx_at n3 (b45 _ _ n3 x3))) (.cons (.int _) (.cons (.int _) .nil))
    have okd : ∀ d ∈ ([.none, .bool true, .str "", .str "a\n", .tuple [.int 1, .int 2], .list [.int 3], .dict [], .int r, .int (10 ^ 20)] : List PyData), OkN d := by
      have e : ([.none, .bool true, .str "", .str "a\n", .tuple [.int 1, .int 2], .list [.int 3], .dict []] : List PyData).all (fun d => d.showable && d.leavesShort 40 && decide (d.depth ≤ 2) && decide (d.bulk ≤ 10)) = true := by decide +kernel
      intro d hd
      rcases List.mem_append.mp (show d ∈ ([.none, .bool true, .str "", .str "a\n", .tuple [.int 1, .int 2], .list [.int 3], .dict []] : List PyData) ++ [.int r, .int (10 ^ 20)] from hd) with h | h
      · have := List.all_eq_true.mp e d h
        simp only [Bool.and_eq_true, decide_eq_true_iff] at this
        exact ⟨this.1.1.1, this.1.1.2, this.1.2, this.2⟩
      · simp only [List.mem_cons, List.not_mem_nil, or_false] at h
        rcases h with e | e
        · rw [e]; exact okN_int (by omega)
        · rw [e]; exact okN_int (by decide)
    refine ⟨_, rfl, _, rfl, p, 9, rfl, pool5, (by decide), (by decide), fun r6 H6 a6 b6 but6 pool6 => ?_⟩
    have c6 : But p J5 H6 := but6
    obtain ⟨v1, mem6, at6⟩ := item_any (xs := [V.non, .bl true, .str "", .str "a\n", .ref t1, .ref l3, .ref d, .int r, .int (10 ^ 20)]) a6 (by exact b6)
    refine ⟨l9, _, r6, v1, rfl, rfl, SqL.of (c6 _ _ n5 x5), at6, ?_⟩
    refine ⟨_, rfl, _, rfl, p, 9, rfl, pool6, (by decide), (by decide), fun r7 H7 a7 b7 but7 pool7 => ?_⟩
    have c7 : But p J5 H7 := c6.trans but7
    obtain ⟨v2, mem7, at7⟩ := item_any (xs := [V.non, .bl true, .str "", .str "a\n", .ref t1, .ref l3, .ref d, .int r, .int (10 ^ 20)]) a7 (by exact b7)
    refine ⟨l9, _, r7, v2, rfl, rfl, SqL.of (c7 _ _ n5 x5), at7, ?_⟩
    refine ⟨_, rfl, _, rfl, p, 9, rfl, pool7, (by decide), (by decide), fun r8 H8 a8 b8 but8 pool8 => ?_⟩
    have c8 : But p J5 H8 := c7.trans but8
    obtain ⟨v3, mem8, at8⟩ := item_any (xs := [V.non, .bl true, .str "", .str "a\n", .ref t1, .ref l3, .ref d, .int r, .int (10 ^ 20)]) a8 (by exact b8)
    refine ⟨l9, _, r8, v3, rfl, rfl, SqL.of (c8 _ _ n5 x5), at8, ?_⟩
    refine ⟨v1, v2, v3, rfl, ?_⟩
    have dn8 := same_dnAll (hx_but c8) _ _ dn
    obtain ⟨d1, md1, dv1⟩ := dn_mem dn8 mem6
    have ok1 := okd d1 md1
    have w1 := same_dn (hx_sub p H8) _ _ dv1
    obtain ⟨d2, md2, dv2⟩ := dn_mem dn8 mem7
    have ok2 := okd d2 md2
    have w2 := same_dn (hx_sub p H8) _ _ dv2
    obtain ⟨d3, md3, dv3⟩ := dn_mem dn8 mem8
    have ok3 := okd d3 md3
    have w3 := same_dn (hx_sub p H8) _ _ dv3
    clear dn dn8 dv1 dv2 dv3 okd x1 x2 x3 m1 m2 m3 s3
    refine ⟨_, rfl, v1, rfl, fun e0 K0 s0 x0 => ?_⟩
    refine ⟨_, rfl, v1, rfl, fun e1 K1 s1 x1 => ?_⟩
    refine ⟨_, rfl, v1, rfl, fun e2 K2 s2 x2 => ?_⟩
    refine ⟨_, rfl, v1, rfl, fun e3 K3 s3 x3 => ?_⟩
    refine ⟨_, rfl, v1, rfl, fun e4 K4 s4 x4 => ?_⟩
    refine ⟨_, rfl, v1, rfl, fun e5 K5 s5 x5 => ?_⟩
    refine ⟨(by show 6 ≤ sizeLine; decide), fun la z10 => ?_⟩
    generalize hG : upd _ la _ = J10
    obtain ⟨m10, x10⟩ := newG hG z10
    clear hG
    refine ⟨_, rfl, _, rfl, _, rfl, _, rfl, v1, v2, v3, rfl, fun e6 K6 s6 x6 => ?_⟩
    refine ⟨_, rfl, v1, rfl, fun e7 K7 s7 x7 => ?_⟩
    refine ⟨(by show 2 ≤ sizeLine; decide), fun lb z11 => ?_⟩
    generalize hG : upd _ lb _ = J11
    obtain ⟨m11, x11⟩ := newG hG z11
    clear hG
    refine ⟨la, lb, _, _, rfl, rfl, m11 _ _ (s7 _ _ (s6 _ _ x10)), x11, (by show 6 + 2 ≤ sizeLine; decide), fun lc z12 => ?_⟩
    generalize hG : upd _ lc _ = J12
    obtain ⟨m12, x12⟩ := newG hG z12
    clear hG
    have y0 := same_exc (((((((((s1.trans s2).trans s3).trans s4).trans s5).trans m10).trans s6).trans s7).trans m11).trans m12) x0
    have y1 := same_exc ((((((((s2.trans s3).trans s4).trans s5).trans m10).trans s6).trans s7).trans m11).trans m12) x1
    have y2 := same_exc (((((((s3.trans s4).trans s5).trans m10).trans s6).trans s7).trans m11).trans m12) x2
    have y3 := same_exc ((((((s4.trans s5).trans m10).trans s6).trans s7).trans m11).trans m12) x3
    have y4 := same_exc (((((s5.trans m10).trans s6).trans s7).trans m11).trans m12) x4
    have y5 := same_exc ((((m10.trans s6).trans s7).trans m11).trans m12) x5
    have y6 := same_exc ((s7.trans m11).trans m12) x6
    have y7 := same_exc (m11.trans m12) x7
    have sE : Same H8 J12 := ((((((((((s0.trans s1).trans s2).trans s3).trans s4).trans s5).trans m10).trans s6).trans s7).trans m11).trans m12)
    refine ⟨(by show 6 ≤ sizeLine; decide), fun r1 z13 => ?_⟩
    generalize hG : upd _ r1 _ = J13
    obtain ⟨m13, x13⟩ := newG hG z13
    clear hG
    refine ⟨(by show 1 ≤ sizeLine; decide), fun q1 z14 => ?_⟩
    generalize hG : upd _ q1 _ = J14
    obtain ⟨m14, x14⟩ := newG hG z14
    clear hG
    refine ⟨q1, 4, _, rfl, rfl, x14, (by decide), (by decide), (by show 1 * 4 ≤ sizeLine; decide), fun q2 z15 => ?_⟩
    generalize hG : upd _ q2 _ = J15
    obtain ⟨m15, x15⟩ := newG hG z15
    clear hG
    refine ⟨(by show 6 ≤ sizeLine; decide), fun r2 z16 => ?_⟩
    generalize hG : upd _ r2 _ = J16
    obtain ⟨m16, x16⟩ := newG hG z16
    clear hG
    refine ⟨(by show 1 ≤ sizeLine; decide), fun q3 z17 => ?_⟩
    generalize hG : upd _ q3 _ = J17
    obtain ⟨m17, x17⟩ := newG hG z17
    clear hG
    refine ⟨q3, 2, _, rfl, rfl, x17, (by decide), (by decide), (by show 1 * 2 ≤ sizeLine; decide), fun q4 z18 => ?_⟩
    generalize hG : upd _ q4 _ = J18
    obtain ⟨m18, x18⟩ := newG hG z18
    clear hG
    refine ⟨q2, q4, _, _, rfl, rfl, m18 _ _ (m17 _ _ (m16 _ _ x15)), x18, (by show 4 + 2 ≤ sizeLine; decide), fun q5 z19 => ?_⟩
    generalize hG : upd _ q5 _ = J19
    obtain ⟨m19, x19⟩ := newG hG z19
    clear hG
    refine ⟨(by show 6 ≤ sizeLine; decide), fun r3 z20 => ?_⟩
    generalize hG : upd _ r3 _ = J20
    obtain ⟨m20, x20⟩ := newG hG z20
    clear hG
    refine ⟨(by show 6 ≤ sizeLine; decide), fun r4 z21 => ?_⟩
    generalize hG : upd _ r4 _ = J21
    obtain ⟨m21, x21⟩ := newG hG z21
    clear hG
    refine ⟨(by show 2 ≤ sizeLine; decide), fun q6 z22 => ?_⟩
    generalize hG : upd _ q6 _ = J22
    obtain ⟨m22, x22⟩ := newG hG z22
    clear hG
    refine ⟨q5, q6, _, _, rfl, rfl, m22 _ _ (m21 _ _ (m20 _ _ x19)), x22, (by show 6 + 2 ≤ sizeLine; decide), fun ld z23 => ?_⟩
    generalize hG : upd _ ld _ = J23
    obtain ⟨m23, x23⟩ := newG hG z23
    clear hG
    have sD : Same J12 J23 := ((((((((((m13.trans m14).trans m15).trans m16).trans m17).trans m18).trans m19).trans m20).trans m21).trans m22).trans m23)
    have f_r1 := (m23 _ _ (m22 _ _ (m21 _ _ (m20 _ _ (m19 _ _ (m18 _ _ (m17 _ _ (m16 _ _ (m15 _ _ (m14 _ _ x13))))))))))
    have f_r2 := (m23 _ _ (m22 _ _ (m21 _ _ (m20 _ _ (m19 _ _ (m18 _ _ (m17 _ _ x16)))))))
    have f_r3 := (m23 _ _ (m22 _ _ (m21 _ _ x20)))
    have f_r4 := (m23 _ _ (m22 _ _ x21))
    have xc := sD _ _ x12
    have t0' := same_exc sD y0
    have t1' := same_exc sD y1
    have t2' := same_exc sD y2
    have t3' := same_exc sD y3
    have t4' := same_exc sD y4
    have t5' := same_exc sD y5
    have t6' := same_exc sD y6
    have t7' := same_exc sD y7
    have each : ∀ (i : Nat) (x : V), ([V.ref e0, .ref e1, .ref e2, .ref e3, .ref e4, .ref e5] ++ [.ref e6, .ref e7])[i]? = some x → ∃ (a C : Addr) (fs : List (Str × V)) (bs : List Bool) (rr : Addr), x = .ref a ∧ Exc J23 a C fs ∧ c.all[i]? = some C ∧ aboveT[i]? = some bs ∧
        (((List.replicate (4 : Int).toNat [V.ref r1]).flatten ++ (List.replicate (2 : Int).toNat [V.ref r2]).flatten) ++ [.ref r3, .ref r4])[i]? = some (.ref rr) ∧ J23 rr = some (.lst (bs.map fun b => V.int (bI b))) ∧ i < 8 := by
      intro i x h
      rcases i with _ | _ | _ | _ | _ | _ | _ | _ | i
      · cases h; exact ⟨_, _, _, _, r1, rfl, t0', rfl, rfl, rfl, f_r1, by omega⟩
      · cases h; exact ⟨_, _, _, _, r1, rfl, t1', rfl, rfl, rfl, f_r1, by omega⟩
      · cases h; exact ⟨_, _, _, _, r1, rfl, t2', rfl, rfl, rfl, f_r1, by omega⟩
      · cases h; exact ⟨_, _, _, _, r1, rfl, t3', rfl, rfl, rfl, f_r1, by omega⟩
      · cases h; exact ⟨_, _, _, _, r2, rfl, t4', rfl, rfl, rfl, f_r2, by omega⟩
      · cases h; exact ⟨_, _, _, _, r2, rfl, t5', rfl, rfl, rfl, f_r2, by omega⟩
      · cases h; exact ⟨_, _, _, _, r3, rfl, t6', rfl, rfl, rfl, f_r3, by omega⟩
      · cases h; exact ⟨_, _, _, _, r4, rfl, t7', rfl, rfl, rfl, f_r4, by omega⟩
      · cases h
    refine ⟨_, rfl, lc, _, rfl, SqL.of xc, ?_⟩
    refine for_enum (K := K) (a := lc) (xs := ([V.ref e0, .ref e1, .ref e2, .ref e3, .ref e4, .ref e5] ++ [.ref e6, .ref e7])) (fun i σ H' => (∃ v8 v9, σ = [some (.ref q), some (.ref p), some (.ref l9), some v1, some v2, some v3, some (.ref lc), some (.ref ld), v8, v9, none, none]) ∧ Same J23 H')
      ⟨⟨none, none, rfl⟩, Same.refl _⟩ (fun i σ H' _ h => h.2.seq (SqL.of xc)) ?_ ?_
    · rintro i x Tt σ H' hx ⟨⟨v8, v9, rfl⟩, sm⟩ nT
      obtain ⟨a, C, fs, bs, rr, rfl, ex, hC, hb, hr', fr, lt⟩ := each i x hx
      generalize hG : upd _ Tt _ = H2
      obtain ⟨g2, xT⟩ := newG hG nT
      clear hG
      refine ⟨Tt, _, rfl, .inl (.inl xT), rfl, _, _, rfl, _, _, rfl, rfl, ?_⟩
      have sm2 := sm.trans g2
      refine ⟨_, rfl, a, C, fs, i, rfl, same_exc sm2 ex, hC, fun pk H3 u3 xk => ?_⟩
      refine ⟨8, rfl, (by decide), (by decide), fun D nD => ?_⟩
      refine lc_rel (f := fun j : Nat => some (.bl (decide (j = i)))) gives_rngD nD (by rw [List.length_range]; decide) (fun j u H' Post mem hR sm y1 y2 => ?_) fun H4 u4 at_D => ?_
      · subst hR
        refine ⟨rfl, _, rfl, _, rfl, rfl, ?_⟩
        rw [int_eq]
        exact y1 _ H' rfl (Same.refl _)
      · rw [show (List.range (8 : Int).toNat).filterMap (fun j : Nat => some (V.bl (decide (j = i)))) = (List.range 8).map fun j => V.bl (decide (j = i)) by rw [List.filterMap_eq_map']; rfl] at at_D
        obtain ⟨o1, o2⟩ := kindD_ok i lt
        refine ⟨kindD i, kindD i, .lst (SqL.of (u4 _ _ xk)) (dp_map _ _ (fun _ => .bl _) _), .lst (SqL.of at_D) (dp_map _ _ (fun _ => .bl _) _), o2, o2, _, rfl, ?_⟩
        rw [o1]
        have sm4 := sm2.trans (u3.trans u4)
        refine iteF ⟨_, rfl, a, C, fs, i, bs, rfl, same_exc sm4 ex, hC, hb, fun pa H5 u5 xa => ?_⟩
        have sm5 := sm4.trans u5
        refine ⟨_, rfl, _, rfl, ld, _, (i : Int), .ref rr, rfl, rfl, SqL.of (sm5 _ _ x23), atI_nat hr', ?_⟩
        obtain ⟨o3, o4⟩ := rowD_ok bs (List.mem_of_getElem? hb)
        refine ⟨rowD bs, rowD bs, .lst (SqL.of xa) (dp_map _ _ (fun _ => .int _) _), .lst (SqL.of (sm5 _ _ fr)) (dp_map _ _ (fun _ => .int _) _), o4, o4, _, rfl, ?_⟩
        rw [o3]
        exact ⟨⟨_, _, rfl⟩, sm5⟩
    · rintro σ H' ⟨⟨v8, v9, rfl⟩, sm⟩
      have sq8 := SqL.of (K := K) (sm _ _ xc)
      refine ⟨_, rfl, lc, _, 0, .ref e0, rfl, rfl, sq8, atI_nat (by rfl), e0, _, _, v1, rfl, same_exc sm t0', L.c_path.xf, L.c_path.no _ (by simp), lk_one, ?_⟩
      refine ⟨_, rfl, lc, _, 1, .ref e1, rfl, rfl, sq8, atI_nat (by rfl), e1, _, _, v1, rfl, same_exc sm t1', L.c_change.xf, L.c_change.no _ (by simp), lk_one, ?_⟩
      refine ⟨_, rfl, lc, _, 2, .ref e2, rfl, rfl, sq8, atI_nat (by rfl), e2, _, _, v1, rfl, same_exc sm t2', L.c_row.xf, L.c_row.no _ (by simp), lk_one, ?_⟩
      refine ⟨_, rfl, lc, _, 3, .ref e3, rfl, rfl, sq8, atI_nat (by rfl), e3, _, _, v1, rfl, same_exc sm t3', L.c_moment.xf, L.c_moment.no _ (by simp), lk_one, ?_⟩
      refine ⟨_, rfl, lc, _, 4, .ref e4, rfl, rfl, sq8, atI_nat (by rfl), e4, _, _, v1, rfl, same_exc sm t4', L.c_thing.xf, L.c_thing.no _ (by simp), lk_one, ?_⟩
      refine ⟨_, rfl, lc, _, 5, .ref e5, rfl, rfl, sq8, atI_nat (by rfl), e5, _, _, v1, rfl, same_exc sm t5', L.c_handle.xf, L.c_handle.no _ (by simp), lk_one, ?_⟩
      refine ⟨(by show 6 ≤ sizeLine; decide), fun ta za => ?_⟩
      generalize hG : upd _ ta _ = Ga
      obtain ⟨ga, xa⟩ := newG hG za
      clear hG
      have sma := sm.trans ga
      have sqa := SqL.of (K := K) (sma _ _ xc)
      refine ⟨_, rfl, ?_⟩
      refine ⟨_, rfl, lc, _, 6, .ref e6, rfl, rfl, sqa, atI_nat (by rfl), e6, _, _, v1, rfl, same_exc sma t6', L.c_fault.xf, L.c_fault.no _ (by simp), ((lk_skip (by decide +kernel)).trans ((lk_skip (by decide +kernel)).trans lk_head)), ?_⟩
      refine ⟨_, rfl, lc, _, 6, .ref e6, rfl, rfl, sqa, atI_nat (by rfl), e6, _, _, v2, rfl, same_exc sma t6', L.c_fault.xf, L.c_fault.no _ (by simp), ((lk_skip (by decide +kernel)).trans lk_head), ?_⟩
      refine ⟨_, rfl, lc, _, 6, .ref e6, rfl, rfl, sqa, atI_nat (by rfl), e6, _, _, v3, rfl, same_exc sma t6', L.c_fault.xf, L.c_fault.no _ (by simp), lk_head, ?_⟩
      refine ⟨_, rfl, lc, _, 7, .ref e7, rfl, rfl, sqa, atI_nat (by rfl), e7, _, _, v1, rfl, same_exc sma t7', L.c_fallen.xf, L.c_fallen.no _ (by simp), lk_one, ?_⟩
      refine ⟨(by show 4 ≤ sizeLine; decide), fun tb zb => ?_⟩
      generalize hG : upd _ tb _ = Gb
      obtain ⟨gb, xb⟩ := newG hG zb
      clear hG
      refine ⟨ta, tb, _, _, rfl, rfl, gb _ _ xa, xb, (by show 6 + 4 ≤ sizeLine; decide), fun tc zc nc => ?_⟩
      generalize hG : upd _ tc _ = Gc
      obtain ⟨gc, xc'⟩ := newG hG zc
      clear hG
      have smc := (sma.trans gb).trans gc
      have s8c : Same H8 Gc := (sE.trans sD).trans smc
      let DD : List PyData := [d1, d1, d1, d1, d1, d1, d1, d2, d3, d1]
      have dnD : ∀ {G : Hp}, Same H8 G → DnAll K G [v1, v1, v1, v1, v1, v1, v1, v2, v3, v1] DD := fun {G} sG =>
        have a1 := same_dn sG _ _ w1
        have a2 := same_dn sG _ _ w2
        have a3 := same_dn sG _ _ w3
        .cons a1 (.cons a1 (.cons a1 (.cons a1 (.cons a1 (.cons a1 (.cons a1 (.cons a2 (.cons a3 (.cons a1 .nil)))))))))
      have shD : (PyData.list DD).showable = true := by simp only [DD, PyData.showable, PyData.showableAll, ok1.sh, ok2.sh, ok3.sh, Bool.and_self]
      have leD : (PyData.list DD).leavesShort 40 = true := by simp only [DD, PyData.leavesShort, PyData.leavesShortAll, ok1.le, ok2.le, ok3.le, Bool.and_self]
      have deD : (PyData.list DD).depth ≤ 60 := by
        have a1 := ok1.dp; have a2 := ok2.dp; have a3 := ok3.dp
        simp only [DD, PyData.depth, PyData.depthAll]
        omega
      have szD : (PyData.list DD).shown.length ≤ sizeLine := by
        have a1 := ok1.bk; have a2 := ok2.bk; have a3 := ok3.bk
        have bk : (PyData.list DD).bulk ≤ 200 := by
          simp only [DD, PyData.bulk, PyData.bulkAll]
          omega
        have e := PyData.shown_le_bulk 40 (by decide) _ leD
        rw [sizeLine_eq]
        omega
      refine ⟨_, rfl, tc, .list DD, rfl, .lst (SqL.of xc') nc (dnD s8c), shD, deD, szD, ?_⟩
      refine ⟨_, rfl, (by show 1 ≤ sizeLine; decide), fun u1 zu1 => ?_⟩
      generalize hG : upd _ u1 _ = Gd
      obtain ⟨gd, xd⟩ := newG hG zu1
      clear hG
      refine ⟨u1, 7, _, rfl, rfl, xd, (by decide), (by decide), (by show 1 * 7 ≤ sizeLine; decide), fun u2 zu2 => ?_⟩
      generalize hG : upd _ u2 _ = Ge
      obtain ⟨ge, xe⟩ := newG hG zu2
      clear hG
      refine ⟨_, rfl, _, rfl, _, rfl, (by show 3 ≤ sizeLine; decide), fun u3 zu3 => ?_⟩
      generalize hG : upd _ u3 _ = Gf
      obtain ⟨gf, xf⟩ := newG hG zu3
      clear hG
      refine ⟨u2, u3, _, _, rfl, rfl, gf _ _ xe, xf, (by show 7 + 3 ≤ sizeLine; decide), fun u4 zu4 nu4 => ?_⟩
      generalize hG : upd _ u4 _ = Gg
      obtain ⟨gg, xg⟩ := newG hG zu4
      clear hG
      have s8g := (((s8c.trans gd).trans ge).trans gf).trans gg
      refine ⟨u4, .list DD, rfl, .lst (SqL.of xg) nu4 (dnD s8g), shD, deD, szD, rfl, ?_⟩
      rw [decide_eq_true rfl]
      exact k _
end
end K3
end

section
open PySem PySem.Spec PyProof.Rows L2 Hv
namespace K3
/-- all that a class must say, told as a truth -/
def clsB (K : PySem.W.Frag) (newId : String) (bmB : List Value) (C : Addr) (fl : List Str) : Bool :=
  (PySem.W.excInitIn K C bmB newId && PySem.W.hasDictIn K C) &&
  (decide (PySem.W.findIn K (.ref C) "__setattr__" = some (some (.builtin "object.__setattr__"))) && decide (PySem.W.subIn K (.ref C) (.type "BaseException") = some true) && decide (PySem.W.typeIn K (.ref C) = some (.type "type")) && PySem.W.keepIn K (.ref C)) &&
  (fl.all fun f => decide (PySem.W.findIn K (.ref C) f = some none)) &&
  (decide (PySem.W.findIn K (.ref C) "__getattribute__" = some (some (.builtin "BaseException.__getattribute__"))) && decide (PySem.W.findIn K (.ref C) "__getattr__" = some none) &&
   decide (PySem.W.findIn K (.ref C) "__class__" = some (some (.builtin "object.__class__"))) && decide (PySem.W.specialIn K (.builtin "object.__class__") "__get__" = some (some (.builtin "getset_descriptor.__get__"))) &&
   decide (PySem.W.takesIn K (.builtin "object.__class__") = some true) && decide (PySem.W.mroIn K C (.type "object") = some true))
def kitKinds (K : PySem.W.Frag) (cs : List Addr) : Bool := (List.range 8).all fun i => (List.range 8).all fun j => match cs[i]?, cs[j]? with
  | some C, some D => decide (PySem.W.kitOne K (.ref C) (.ref D) = some (decide (j = i)))
  | _, _ => true
def kitAbove (K : PySem.W.Frag) (cs : List Addr) (h : Addr) : Bool := (List.range 8).all fun i => (List.range 6).all fun j => match cs[i]?, aboveT[i]?, ([Value.ref h, .type "ValueError", .type "IndexError", .type "LookupError", .type "KeyError", .type "RuntimeError"] : List Value)[j]? with
  | some C, some bs, some u => (match bs[j]? with | some b => decide (PySem.W.kitOne K (.ref C) u = some b) | none => true)
  | _, _, _ => true
theorem kinds_of {K : PySem.W.Frag} {c : Cs} (h : kitKinds K c.all = true) : ∀ (i j : Nat) (C D : Addr), c.all[i]? = some C → c.all[j]? = some D → PySem.W.kitOne K (.ref C) (.ref D) = some (decide (j = i)) := by
  intro i j C D hi hj
  have li : i < 8 := (List.getElem?_eq_some_iff.mp hi).1
  have lj : j < 8 := (List.getElem?_eq_some_iff.mp hj).1
  have e := List.all_eq_true.mp (List.all_eq_true.mp h i (List.mem_range.mpr li)) j (List.mem_range.mpr lj)
  rw [hi, hj] at e
  exact of_decide_eq_true e
theorem above_of {K : PySem.W.Frag} {c : Cs} (h : kitAbove K c.all c.hist = true) : ∀ (i : Nat) (C : Addr) (bs : List Bool), c.all[i]? = some C → aboveT[i]? = some bs → ∀ (j : Nat) (u : Value) (b : Bool),
    [Value.ref c.hist, .type "ValueError", .type "IndexError", .type "LookupError", .type "KeyError", .type "RuntimeError"][j]? = some u → bs[j]? = some b → PySem.W.kitOne K (.ref C) u = some b := by
  intro i C bs hi hb j u b hj hbj
  have li : i < 8 := (List.getElem?_eq_some_iff.mp hi).1
  have lj : j < 6 := (List.getElem?_eq_some_iff.mp hj).1
  have e := List.all_eq_true.mp (List.all_eq_true.mp h i (List.mem_range.mpr li)) j (List.mem_range.mpr lj)
  rw [hi, hb, hj] at e
  dsimp only at e
  rw [hbj] at e
  exact of_decide_eq_true e
theorem cls_ok {K : PySem.W.Frag} {newId : String} {bmB : List Value} {C I : Addr} {fl : List Str} (h : clsB K newId bmB C fl = true) (i : PySem.W.findIn K (.ref C) "__init__" = some (some (.ref I))) (t : PySem.W.typeIn K (.ref I) = some (.type "function")) : ClsE K newId bmB C I fl := by
  unfold clsB at h
  simp only [Bool.and_eq_true, decide_eq_true_iff, List.all_eq_true] at h
  obtain ⟨⟨⟨⟨e1, e2⟩, ⟨⟨a1, a2⟩, a3⟩, a4⟩, no⟩, ⟨⟨⟨⟨⟨c1, c2⟩, c3⟩, c4⟩, c5⟩, c6⟩⟩ := h
  refine ⟨⟨?_, a1, a2, a3, a4⟩, i, t, no, ⟨c1, c2, a2, e2, c3, c4, c5, c6⟩, ⟨c1, c2, a2, e2⟩⟩
  unfold PySem.W.excInitIn at e1
  split at e1
  · next dd cd sl ho =>
    split at e1
    · next C' bm k0 k1 k2 k3 n k5 hm hs =>
      simp only [Bool.and_eq_true, beq_iff_eq, Bool.not_eq_true'] at e1
      obtain ⟨⟨⟨q1, q2⟩, q3⟩, q4⟩ := e1
      cases cd with
      | mk nm bs mro ns qn hd sn sub ab col del =>
        simp only at hm q3
        subst hm q3 q1 q2
        obtain ⟨arr⟩ := sl
        simp only at hs
        subst hs
        have dict : hd = true := by
          unfold PySem.W.hasDictIn PySem.W.clsIn at e2
          rw [ho] at e2
          simpa using e2
        subst dict
        exact ⟨nm, qn, ns, bs, bm, sn, sub, ab, col, dd, k0, k1, k2, k3, k5, ho, q4⟩
    · cases e1
  · cases e1
theorem all_mk {l0 : PySem.W.OpenLaw} {w : World} {K : PySem.W.Frag} {h : Heap} {mg : Str → Option Value} {fa f_begun f_take f_kinds f_above f_law : Addr} (X : K.In h) (G : h.Ns mainGlobals mg) (hfa : mg "law" = some (.ref fa))
    {C_path I_path : Addr}
    {od_path an_path : Option Addr} {sl_path : Array (Option Value)} {oc_path kV_path dc_path pm_path cd_path ct_path : Value}
    {C_change I_change : Addr}
    {od_change an_change : Option Addr} {sl_change : Array (Option Value)} {oc_change kV_change dc_change pm_change cd_change ct_change : Value}
    {C_row I_row : Addr}
    {od_row an_row : Option Addr} {sl_row : Array (Option Value)} {oc_row kV_row dc_row pm_row cd_row ct_row : Value}
    {C_moment I_moment : Addr}
    {od_moment an_moment : Option Addr} {sl_moment : Array (Option Value)} {oc_moment kV_moment dc_moment pm_moment cd_moment ct_moment : Value}
    {C_thing I_thing : Addr}
    {od_thing an_thing : Option Addr} {sl_thing : Array (Option Value)} {oc_thing kV_thing dc_thing pm_thing cd_thing ct_thing : Value}
    {C_handle I_handle : Addr}
    {od_handle an_handle : Option Addr} {sl_handle : Array (Option Value)} {oc_handle kV_handle dc_handle pm_handle cd_handle ct_handle : Value}
    {C_fault I_fault : Addr}
    {od_fault an_fault : Option Addr} {sl_fault : Array (Option Value)} {oc_fault kV_fault dc_fault pm_fault cd_fault ct_fault : Value}
    {C_fallen I_fallen : Addr}
    {od_fallen an_fallen : Option Addr} {sl_fallen : Array (Option Value)} {oc_fallen kV_fallen dc_fallen pm_fallen cd_fallen ct_fallen : Value}
    {C_hist : Addr}
    {od_begun an_begun : Option Addr} {sl_begun : Array (Option Value)} {oc_begun kV_begun dc_begun pm_begun cd_begun ct_begun : Value}
    {od_take an_take : Option Addr} {sl_take : Array (Option Value)} {oc_take kV_take dc_take pm_take cd_take ct_take : Value}
    {od_kinds an_kinds : Option Addr} {sl_kinds : Array (Option Value)} {oc_kinds kV_kinds dc_kinds pm_kinds cd_kinds ct_kinds : Value}
    {od_above an_above : Option Addr} {sl_above : Array (Option Value)} {oc_above kV_above dc_above pm_above cd_above ct_above : Value}
    {od_law an_law : Option Addr} {sl_law : Array (Option Value)} {oc_law kV_law dc_law pm_law cd_law ct_law : Value}
    (g_path : PySem.W.nsIn K mainGlobals "NoPath" = some (some (.ref C_path)))
    (x_path : clsB K "ValueError.__new__" bmV C_path ["thing"] = true)
    (i_path : PySem.W.findIn K (.ref C_path) "__init__" = some (some (.ref I_path)))
    (t_path : PySem.W.typeIn K (.ref I_path) = some (.type "function"))
    (l_path : K.lookup I_path = some ⟨oc_path, od_path, .func (PySem.W.fnOf "__init__" "NoPath.__init__" (defArgs i_NoPath) (defBody i_NoPath) (defScope i_NoPath) .none kV_path dc_path pm_path an_path cd_path ct_path), sl_path⟩)
    (d_path : PySem.W.codeIn K cd_path "NoPath.__init__" = true)
    (k_path : PySem.W.keepIn K (.ref I_path) = true)
    (g_change : PySem.W.nsIn K mainGlobals "NoChange" = some (some (.ref C_change)))
    (x_change : clsB K "ValueError.__new__" bmV C_change ["word"] = true)
    (i_change : PySem.W.findIn K (.ref C_change) "__init__" = some (some (.ref I_change)))
    (t_change : PySem.W.typeIn K (.ref I_change) = some (.type "function"))
    (l_change : K.lookup I_change = some ⟨oc_change, od_change, .func (PySem.W.fnOf "__init__" "NoChange.__init__" (defArgs i_NoChange) (defBody i_NoChange) (defScope i_NoChange) .none kV_change dc_change pm_change an_change cd_change ct_change), sl_change⟩)
    (d_change : PySem.W.codeIn K cd_change "NoChange.__init__" = true)
    (k_change : PySem.W.keepIn K (.ref I_change) = true)
    (g_row : PySem.W.nsIn K mainGlobals "NoRow" = some (some (.ref C_row)))
    (x_row : clsB K "ValueError.__new__" bmV C_row ["number"] = true)
    (i_row : PySem.W.findIn K (.ref C_row) "__init__" = some (some (.ref I_row)))
    (t_row : PySem.W.typeIn K (.ref I_row) = some (.type "function"))
    (l_row : K.lookup I_row = some ⟨oc_row, od_row, .func (PySem.W.fnOf "__init__" "NoRow.__init__" (defArgs i_NoRow) (defBody i_NoRow) (defScope i_NoRow) .none kV_row dc_row pm_row an_row cd_row ct_row), sl_row⟩)
    (d_row : PySem.W.codeIn K cd_row "NoRow.__init__" = true)
    (k_row : PySem.W.keepIn K (.ref I_row) = true)
    (g_moment : PySem.W.nsIn K mainGlobals "NoMoment" = some (some (.ref C_moment)))
    (x_moment : clsB K "ValueError.__new__" bmV C_moment ["thing"] = true)
    (i_moment : PySem.W.findIn K (.ref C_moment) "__init__" = some (some (.ref I_moment)))
    (t_moment : PySem.W.typeIn K (.ref I_moment) = some (.type "function"))
    (l_moment : K.lookup I_moment = some ⟨oc_moment, od_moment, .func (PySem.W.fnOf "__init__" "NoMoment.__init__" (defArgs i_NoMoment) (defBody i_NoMoment) (defScope i_NoMoment) .none kV_moment dc_moment pm_moment an_moment cd_moment ct_moment), sl_moment⟩)
    (d_moment : PySem.W.codeIn K cd_moment "NoMoment.__init__" = true)
    (k_moment : PySem.W.keepIn K (.ref I_moment) = true)
    (g_thing : PySem.W.nsIn K mainGlobals "NoThing" = some (some (.ref C_thing)))
    (x_thing : clsB K "IndexError.__new__" bmI C_thing ["thing"] = true)
    (i_thing : PySem.W.findIn K (.ref C_thing) "__init__" = some (some (.ref I_thing)))
    (t_thing : PySem.W.typeIn K (.ref I_thing) = some (.type "function"))
    (l_thing : K.lookup I_thing = some ⟨oc_thing, od_thing, .func (PySem.W.fnOf "__init__" "NoThing.__init__" (defArgs i_NoThing) (defBody i_NoThing) (defScope i_NoThing) .none kV_thing dc_thing pm_thing an_thing cd_thing ct_thing), sl_thing⟩)
    (d_thing : PySem.W.codeIn K cd_thing "NoThing.__init__" = true)
    (k_thing : PySem.W.keepIn K (.ref I_thing) = true)
    (g_handle : PySem.W.nsIn K mainGlobals "NoHandle" = some (some (.ref C_handle)))
    (x_handle : clsB K "IndexError.__new__" bmI C_handle ["thing"] = true)
    (i_handle : PySem.W.findIn K (.ref C_handle) "__init__" = some (some (.ref I_handle)))
    (t_handle : PySem.W.typeIn K (.ref I_handle) = some (.type "function"))
    (l_handle : K.lookup I_handle = some ⟨oc_handle, od_handle, .func (PySem.W.fnOf "__init__" "NoHandle.__init__" (defArgs i_NoHandle) (defBody i_NoHandle) (defScope i_NoHandle) .none kV_handle dc_handle pm_handle an_handle cd_handle ct_handle), sl_handle⟩)
    (d_handle : PySem.W.codeIn K cd_handle "NoHandle.__init__" = true)
    (k_handle : PySem.W.keepIn K (.ref I_handle) = true)
    (g_fault : PySem.W.nsIn K mainGlobals "Fault" = some (some (.ref C_fault)))
    (x_fault : clsB K "LookupError.__new__" bmL C_fault ["word", "path", "gone"] = true)
    (i_fault : PySem.W.findIn K (.ref C_fault) "__init__" = some (some (.ref I_fault)))
    (t_fault : PySem.W.typeIn K (.ref I_fault) = some (.type "function"))
    (l_fault : K.lookup I_fault = some ⟨oc_fault, od_fault, .func (PySem.W.fnOf "__init__" "Fault.__init__" (defArgs i_Fault) (defBody i_Fault) (defScope i_Fault) .none kV_fault dc_fault pm_fault an_fault cd_fault ct_fault), sl_fault⟩)
    (d_fault : PySem.W.codeIn K cd_fault "Fault.__init__" = true)
    (k_fault : PySem.W.keepIn K (.ref I_fault) = true)
    (g_fallen : PySem.W.nsIn K mainGlobals "Fallen" = some (some (.ref C_fallen)))
    (x_fallen : clsB K "RuntimeError.__new__" bmR C_fallen ["since"] = true)
    (i_fallen : PySem.W.findIn K (.ref C_fallen) "__init__" = some (some (.ref I_fallen)))
    (t_fallen : PySem.W.typeIn K (.ref I_fallen) = some (.type "function"))
    (l_fallen : K.lookup I_fallen = some ⟨oc_fallen, od_fallen, .func (PySem.W.fnOf "__init__" "Fallen.__init__" (defArgs i_Fallen) (defBody i_Fallen) (defScope i_Fallen) .none kV_fallen dc_fallen pm_fallen an_fallen cd_fallen ct_fallen), sl_fallen⟩)
    (d_fallen : PySem.W.codeIn K cd_fallen "Fallen.__init__" = true)
    (k_fallen : PySem.W.keepIn K (.ref I_fallen) = true)
    (g_hist : PySem.W.nsIn K mainGlobals "HistoryError" = some (some (.ref C_hist)))
    (kindsB : kitKinds K [C_path, C_change, C_row, C_moment, C_thing, C_handle, C_fault, C_fallen] = true)
    (aboveB : kitAbove K [C_path, C_change, C_row, C_moment, C_thing, C_handle, C_fault, C_fallen] C_hist = true)
    (z_0 : PySem.W.nsIn K mainGlobals "isinstance" = some none)
    (z_1 : PySem.W.nsIn K mainGlobals "int" = some none)
    (z_2 : PySem.W.nsIn K mainGlobals "max" = some none)
    (z_3 : PySem.W.nsIn K mainGlobals "range" = some none)
    (z_4 : PySem.W.nsIn K mainGlobals "repr" = some none)
    (z_5 : PySem.W.nsIn K mainGlobals "enumerate" = some none)
    (z_6 : PySem.W.nsIn K mainGlobals "ValueError" = some none)
    (z_7 : PySem.W.nsIn K mainGlobals "IndexError" = some none)
    (z_8 : PySem.W.nsIn K mainGlobals "LookupError" = some none)
    (z_9 : PySem.W.nsIn K mainGlobals "KeyError" = some none)
    (z_10 : PySem.W.nsIn K mainGlobals "RuntimeError" = some none)
    (a_begun : PySem.W.nsIn K mainGlobals "_law_begun" = some (some (.ref f_begun))) (l_begun : K.lookup f_begun = some ⟨oc_begun, od_begun, .func (PySem.W.fnOf "_law_begun" "_law_begun" (defArgs s_begun) (defBody s_begun) (defScope s_begun) .none kV_begun dc_begun pm_begun an_begun cd_begun ct_begun), sl_begun⟩) (d_begun : PySem.W.codeIn K cd_begun "_law_begun" = true) (k_begun : PySem.W.keepIn K (.ref f_begun) = true)
    (a_take : PySem.W.nsIn K mainGlobals "_law_take" = some (some (.ref f_take))) (l_take : K.lookup f_take = some ⟨oc_take, od_take, .func (PySem.W.fnOf "_law_take" "_law_take" (defArgs s_take) (defBody s_take) (defScope s_take) .none kV_take dc_take pm_take an_take cd_take ct_take), sl_take⟩) (d_take : PySem.W.codeIn K cd_take "_law_take" = true) (k_take : PySem.W.keepIn K (.ref f_take) = true)
    (a_kinds : PySem.W.nsIn K mainGlobals "_law_kinds" = some (some (.ref f_kinds))) (l_kinds : K.lookup f_kinds = some ⟨oc_kinds, od_kinds, .func (PySem.W.fnOf "_law_kinds" "_law_kinds" (defArgs s_kinds) (defBody s_kinds) (defScope s_kinds) .none kV_kinds dc_kinds pm_kinds an_kinds cd_kinds ct_kinds), sl_kinds⟩) (d_kinds : PySem.W.codeIn K cd_kinds "_law_kinds" = true) (k_kinds : PySem.W.keepIn K (.ref f_kinds) = true)
    (a_above : PySem.W.nsIn K mainGlobals "_law_above" = some (some (.ref f_above))) (l_above : K.lookup f_above = some ⟨oc_above, od_above, .func (PySem.W.fnOf "_law_above" "_law_above" (defArgs s_above) (defBody s_above) (defScope s_above) .none kV_above dc_above pm_above an_above cd_above ct_above), sl_above⟩) (d_above : PySem.W.codeIn K cd_above "_law_above" = true) (k_above : PySem.W.keepIn K (.ref f_above) = true)
    (a_law : PySem.W.nsIn K mainGlobals "law" = some (some (.ref f_law))) (l_law : K.lookup f_law = some ⟨oc_law, od_law, .func (PySem.W.fnOf "law" "law" (defArgs s_law) (defBody s_law) (defScope s_law) .none kV_law dc_law pm_law an_law cd_law ct_law), sl_law⟩) (d_law : PySem.W.codeIn K cd_law "law" = true) (k_law : PySem.W.keepIn K (.ref f_law) = true)
    : ∃ fd : FuncData, (∀ (s : Shared) (v : Value), BindsTo s fd ⟨[v], []⟩ [("_law_script", v)]) ∧ ∀ base : Heap, K.In base → base.Ns mainGlobals mg → Hv.Keeps l0.prog w K mg base CX0 3 fa fd ["_law_script"] (spLaw K) := by
  have e := hfa.symm.trans (PySem.W.mg_of X G a_law)
  cases e
  have F_begun := fun_mk (st := s_begun) l_begun d_begun k_begun
  have F_take := fun_mk (st := s_take) l_take d_take k_take
  have F_kinds := fun_mk (st := s_kinds) l_kinds d_kinds k_kinds
  have F_above := fun_mk (st := s_above) l_above d_above k_above
  have F_law := fun_mk (st := s_law) l_law d_law k_law
  let c : Cs := ⟨C_path, C_change, C_row, C_moment, C_thing, C_handle, C_fault, C_fallen, C_hist⟩
  let n : Is := ⟨I_path, I_change, I_row, I_moment, I_thing, I_handle, I_fault, I_fallen⟩
  let l : Fs := ⟨f_begun, f_take, f_kinds, f_above⟩
  have S_path := cls_ok x_path i_path t_path
  have S_change := cls_ok x_change i_change t_change
  have S_row := cls_ok x_row i_row t_row
  have S_moment := cls_ok x_moment i_moment t_moment
  have S_thing := cls_ok x_thing i_thing t_thing
  have S_handle := cls_ok x_handle i_handle t_handle
  have S_fault := cls_ok x_fault i_fault t_fault
  have S_fallen := cls_ok x_fallen i_fallen t_fallen
  have TB : TxtB mg := ⟨PySem.W.mg_none_of X G z_2, PySem.W.mg_none_of X G z_1, PySem.W.mg_none_of X G z_3⟩
  have KIN : ∀ C ∈ c.all, ExcC K C := fun C hC => by
    simp only [Cs.all, List.mem_cons, List.not_mem_nil, or_false] at hC
    rcases hC with e | e | e | e | e | e | e | e
    · rw [e]; exact S_path.kin
    · rw [e]; exact S_change.kin
    · rw [e]; exact S_row.kin
    · rw [e]; exact S_moment.kin
    · rw [e]; exact S_thing.kin
    · rw [e]; exact S_handle.kin
    · rw [e]; exact S_fault.kin
    · rw [e]; exact S_fallen.kin
  have T : TxtC K mg c := ⟨PySem.W.mg_none_of X G z_0, PySem.W.mg_none_of X G z_1, PySem.W.mg_none_of X G z_6, PySem.W.mg_none_of X G z_7, PySem.W.mg_none_of X G z_8, PySem.W.mg_none_of X G z_9, PySem.W.mg_none_of X G z_10, PySem.W.mg_of X G g_path, PySem.W.mg_of X G g_change, PySem.W.mg_of X G g_row, PySem.W.mg_of X G g_moment, PySem.W.mg_of X G g_thing, PySem.W.mg_of X G g_handle, PySem.W.mg_of X G g_fault, PySem.W.mg_of X G g_fallen, PySem.W.mg_of X G g_hist, KIN, kinds_of kindsB, above_of aboveB⟩
  have L : TxtL K mg c n l := ⟨PySem.W.mg_none_of X G z_5, PySem.W.mg_none_of X G z_3, PySem.W.mg_none_of X G z_4, PySem.W.mg_of X G a_begun, PySem.W.mg_of X G a_take, PySem.W.mg_of X G a_kinds, PySem.W.mg_of X G a_above, k_begun, k_take, k_kinds, k_above, S_path, S_change, S_row, S_moment, S_thing, S_handle, S_fault, S_fallen⟩
  have F_path := fun_mk (st := i_NoPath) l_path d_path k_path
  have F_change := fun_mk (st := i_NoChange) l_change d_change k_change
  have F_row := fun_mk (st := i_NoRow) l_row d_row k_row
  have F_moment := fun_mk (st := i_NoMoment) l_moment d_moment k_moment
  have F_thing := fun_mk (st := i_NoThing) l_thing d_thing k_thing
  have F_handle := fun_mk (st := i_NoHandle) l_handle d_handle k_handle
  have F_fault := fun_mk (st := i_Fault) l_fault d_fault k_fault
  have F_fallen := fun_mk (st := i_Fallen) l_fallen d_fallen k_fallen
  have B_begun := F_begun.binds (ps := ["_law_script", "_law_k"]) fun _ _ _ _ _ _ us hl => match us, hl with | [_, _], _ => rfl
  have B_take := F_take.binds (ps := ["_law_state", "_law_many"]) fun _ _ _ _ _ _ us hl => match us, hl with | [_, _], _ => rfl
  have B_kinds := F_kinds.binds (ps := ["_law_error"]) fun _ _ _ _ _ _ us hl => match us, hl with | [_], _ => rfl
  have B_above := F_above.binds (ps := ["_law_error"]) fun _ _ _ _ _ _ us hl => match us, hl with | [_], _ => rfl
  have B_path := F_path.binds (ps := ["self", "thing"]) fun _ _ _ _ _ _ us hl => match us, hl with | [_, _], _ => rfl
  have B_change := F_change.binds (ps := ["self", "word"]) fun _ _ _ _ _ _ us hl => match us, hl with | [_, _], _ => rfl
  have B_row := F_row.binds (ps := ["self", "number"]) fun _ _ _ _ _ _ us hl => match us, hl with | [_, _], _ => rfl
  have B_moment := F_moment.binds (ps := ["self", "thing"]) fun _ _ _ _ _ _ us hl => match us, hl with | [_, _], _ => rfl
  have B_thing := F_thing.binds (ps := ["self", "thing"]) fun _ _ _ _ _ _ us hl => match us, hl with | [_, _], _ => rfl
  have B_handle := F_handle.binds (ps := ["self", "thing"]) fun _ _ _ _ _ _ us hl => match us, hl with | [_, _], _ => rfl
  have B_fault := F_fault.binds (ps := ["self", "word", "path", "gone"]) fun _ _ _ _ _ _ us hl => match us, hl with | [_, _, _, _], _ => rfl
  have B_fallen := F_fallen.binds (ps := ["self", "since"]) fun _ _ _ _ _ _ us hl => match us, hl with | [_, _], _ => rfl
  refine ⟨PySem.W.fnOf "law" "law" (defArgs s_law) (defBody s_law) (defScope s_law) .none kV_law dc_law pm_law an_law cd_law ct_law, fun s v => .of_eq rfl, fun base _ _ => ?_⟩
  have G_begun := ok_begun (P := l0.prog) (w := w) (base := base) F_begun TB
  have G_take := ok_take (P := l0.prog) (w := w) (K := K) (base := base) F_take TB
  have G_kinds := ok_kinds (P := l0.prog) (w := w) (base := base) F_kinds T
  have G_above := ok_above (P := l0.prog) (w := w) (base := base) F_above T
  have J_path := in_NoPath (P := l0.prog) (w := w) (K := K) (mg := mg) (base := base) F_path
  have J_change := in_NoChange (P := l0.prog) (w := w) (K := K) (mg := mg) (base := base) F_change
  have J_row := in_NoRow (P := l0.prog) (w := w) (K := K) (mg := mg) (base := base) F_row
  have J_moment := in_NoMoment (P := l0.prog) (w := w) (K := K) (mg := mg) (base := base) F_moment
  have J_thing := in_NoThing (P := l0.prog) (w := w) (K := K) (mg := mg) (base := base) F_thing
  have J_handle := in_NoHandle (P := l0.prog) (w := w) (K := K) (mg := mg) (base := base) F_handle
  have J_fault := in_Fault (P := l0.prog) (w := w) (K := K) (mg := mg) (base := base) F_fault
  have J_fallen := in_Fallen (P := l0.prog) (w := w) (K := K) (mg := mg) (base := base) F_fallen
  exact ok_law F_law T L G_begun B_begun G_take B_take G_kinds B_kinds G_above B_above J_path B_path J_change B_change J_row B_row J_moment B_moment J_thing B_thing J_handle B_handle J_fault B_fault J_fallen B_fallen
end K3
open PySem PySem.W PyProof.Rows
set_option maxRecDepth 100000 in
set_option maxHeartbeats 0 in
theorem PySem.Challenge.cw_onehistory_k03_refusals_apart_holds : PySem.Challenge.rw_onehistory_k03_refusals_apart.Holds := by
  w_on; o_law; k_head; (case hw => w_witness2)
  k_fill
  refine Hv.walkK (l := PySem.Challenge.rw_onehistory_k03_refusals_apart) (n := 63) (k := 3) (x := "_law_script") (sp := K3.spLaw) rfl (by decide) rfl ⟨rfl, by decide, by decide⟩ (fun w h Y => PySem.W.kIn_of Y) ?F ?S
  case F =>
    intro w mg fa h KX G hmg
    refine' K3.all_mk KX G hmg ?g_path ?x_path ?i_path ?t_path ?l_path ?d_path ?k_path ?g_change ?x_change ?i_change ?t_change ?l_change ?d_change ?k_change ?g_row ?x_row ?i_row ?t_row ?l_row ?d_row ?k_row ?g_moment ?x_moment ?i_moment ?t_moment ?l_moment ?d_moment ?k_moment ?g_thing ?x_thing ?i_thing ?t_thing ?l_thing ?d_thing ?k_thing ?g_handle ?x_handle ?i_handle ?t_handle ?l_handle ?d_handle ?k_handle ?g_fault ?x_fault ?i_fault ?t_fault ?l_fault ?d_fault ?k_fault ?g_fallen ?x_fallen ?i_fallen ?t_fallen ?l_fallen ?d_fallen ?k_fallen ?g_hist ?kindsB ?aboveB ?z_0 ?z_1 ?z_2 ?z_3 ?z_4 ?z_5 ?z_6 ?z_7 ?z_8 ?z_9 ?z_10 ?a_begun ?l_begun ?d_begun ?k_begun ?a_take ?l_take ?d_take ?k_take ?a_kinds ?l_kinds ?d_kinds ?k_kinds ?a_above ?l_above ?d_above ?k_above ?a_law ?l_law ?d_law ?k_law
    (case g_path => k_is)
    (case i_path => k_is)
    (case t_path => k_is)
    (case l_path => k_is)
    (case d_path => k_is)
    (case k_path => k_is)
    (case g_change => k_is)
    (case i_change => k_is)
    (case t_change => k_is)
    (case l_change => k_is)
    (case d_change => k_is)
    (case k_change => k_is)
    (case g_row => k_is)
    (case i_row => k_is)
    (case t_row => k_is)
    (case l_row => k_is)
    (case d_row => k_is)
    (case k_row => k_is)
    (case g_moment => k_is)
    (case i_moment => k_is)
    (case t_moment => k_is)
    (case l_moment => k_is)
    (case d_moment => k_is)
    (case k_moment => k_is)
    (case g_thing => k_is)
    (case i_thing => k_is)
    (case t_thing => k_is)
    (case l_thing => k_is)
    (case d_thing => k_is)
    (case k_thing => k_is)
    (case g_handle => k_is)
    (case i_handle => k_is)
    (case t_handle => k_is)
    (case l_handle => k_is)
    (case d_handle => k_is)
    (case k_handle => k_is)
    (case g_fault => k_is)
    (case i_fault => k_is)
    (case t_fault => k_is)
    (case l_fault => k_is)
    (case d_fault => k_is)
    (case k_fault => k_is)
    (case g_fallen => k_is)
    (case i_fallen => k_is)
    (case t_fallen => k_is)
    (case l_fallen => k_is)
    (case d_fallen => k_is)
    (case k_fallen => k_is)
    (case g_hist => k_is)
    (case x_path => kernel_rfl)
    (case x_change => kernel_rfl)
    (case x_row => kernel_rfl)
    (case x_moment => kernel_rfl)
    (case x_thing => kernel_rfl)
    (case x_handle => kernel_rfl)
    (case x_fault => kernel_rfl)
    (case x_fallen => kernel_rfl)
    (case kindsB => kernel_rfl)
    (case aboveB => kernel_rfl)
    (case z_0 => k_is)
    (case z_1 => k_is)
    (case z_2 => k_is)
    (case z_3 => k_is)
    (case z_4 => k_is)
    (case z_5 => k_is)
    (case z_6 => k_is)
    (case z_7 => k_is)
    (case z_8 => k_is)
    (case z_9 => k_is)
    (case z_10 => k_is)
    (case a_begun => k_is)
    (case l_begun => k_is)
    (case d_begun => k_is)
    (case k_begun => k_is)
    (case a_take => k_is)
    (case l_take => k_is)
    (case d_take => k_is)
    (case k_take => k_is)
    (case a_kinds => k_is)
    (case l_kinds => k_is)
    (case d_kinds => k_is)
    (case k_kinds => k_is)
    (case a_above => k_is)
    (case l_above => k_is)
    (case d_above => k_is)
    (case k_above => k_is)
    (case a_law => k_is)
    (case l_law => k_is)
    (case d_law => k_is)
    (case k_law => k_is)
  case S =>
    intro K H a ns few bits only sq
    exact ⟨a, ns, rfl, sq, few, fun _ => rfl⟩
end
