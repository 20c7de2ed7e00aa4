import PyProof.Rows.All
import Wide.All
import OpenK.AllK
import Wide.FinOn
import HandS.ForMost
import HandS.IsInst
import HandS.Deep
import HandS.EndBits
import HandS.StrMore
import PyProof.StrBlock
import PyProof.StrLawsChain
import PyProof.FitsStr
import HandS.TupAny
import HandS.Zip
import HandS.NoneIn
import HandS.Small
import HandS.TupMul
import PySem.Challenge.RW_onehistory_k04_changes_by_form
set_option Elab.async false
set_option linter.all false
set_option maxRecDepth 100000
set_option maxHeartbeats 8000000
section
/-! Defs that keep a promise wherever no repr is under way: their calls, the makings of instances, the end of a law. -/
namespace Hv
open PySem PySem.Spec PyProof.Rows L2

/-- as FnOk, but for callers around whom no guard stands (so that repr may be called within) -/
structure Keeps (P : Program) (w : World) (K : PySem.W.Frag) (mg : Str → Option Value) (base : Heap) (CX : CXT) (k : Nat) (f : Addr) (fd : FuncData) (ps : List Str) (sp : Sp) : Prop where
  many : ∀ vs H Q E, sp vs H Q E → vs.length = ps.length
  go : ∀ (A : Around) (outer : List Env) (s : Shared) (H : Hp) (args : Args) (us : List Value) (vs : List V) (Q : VK) (E : XK),
    Room k A → A.guards = some [] → Env0 P w K mg base A outer s H → BindsTo s fd args (ps.zip us) →
      Vals vs us → sp vs H Q E → codeAny (model P w) A (.call (.ref f) args) (CR CX outer P w H s Q E) s

section
variable {P : Program} {w : World} {K : PySem.W.Frag} {mg : Str → Option Value} {base : Heap} {CX : CXT}
theorem Keeps.up {j k : Nat} {f : Addr} {fd : FuncData} {ps : List Str} {sp : Sp} (F : Keeps P w K mg base CX j f fd ps sp) (h : j ≤ k) : Keeps P w K mg base CX k f fd ps sp :=
  ⟨F.many, fun A outer s H args us vs Q E room => F.go A outer s H args us vs Q E (room.mono h)⟩

/-- a def of the text by its body's walk -/
theorem keeps_of {k : Nat} {f : Addr} {x qual : Str} {st : Stmt} {fd : FuncData} {N ps : List Str} {sp : Sp} (F : Fun K x qual st f fd) (S : FnScope N ps (defScope st))
    (many : ∀ vs H Q E, sp vs H Q E → vs.length = ps.length)
    (walk : ∀ (cdv : Value) (A : Around) (outer : List Env) (s : Shared) (H : Hp) (vs : List V) (Q : VK) (E : XK),
      Room k (A.deeper (envOfC qual (defScope st) s.heap.objs.size f cdv)) → A.guards = some [] → sp vs H Q E →
      ∃ t, PSs (cxOf CX P w K mg base N qual (defScope st) f cdv A outer s H E) (defBody st) t ∧
        t { nx := fun _ H' => Q .non H', rt := Q } (start N vs) H) :
    Keeps P w K mg base CX (k + 1) f fd ps sp := by
  obtain ⟨oc, od, kV, doc, pm, an, cdv, ct, osl, rfl, look, code⟩ := F.ex
  constructor
  · exact many
  · intro A outer s H args us vs Q E room calm env bind vals want
    have size := many _ _ _ _ want
    have inK : K.In s.heap := env.mod.kin.keeps fun b o e => (env.bs b o e).1
    have free : s.heap.NoLimit := env.mod.nolimit.keeps fun b o e => (env.bs b o e).1
    have sorts : ∀ y ∈ ps.zip us, (defScope st).names.lookup y.1 = some .local ∨
        ((defScope st).names.lookup y.1 = some .cell ∧ ((cellsFrom (s.heap.objs.size + 1) (defScope st).names []).lookup y.1).isSome = true) := by
      rintro ⟨n, v⟩ hy
      rcases S.par n (List.of_mem_zip hy).1 with q | q
      · exact Or.inl q
      · exact Or.inr ⟨q, PySem.W.cellsFrom_some _ _ _ (Or.inl q)⟩
    refine codeAny_call_function room.depth (inK _ _ look) rfl S.co S.gen rfl
      (PySem.W.codeRec_of inK code) (bind _ _ _ _ ?_)
    refine wpAny_newFunctionEnv_cells S.kind sorts fun ev hev s1 hx => ?_
    subst hev
    refine ⟨free.keeps hx.toInCall.keep, codeAny_func ?_⟩
    obtain ⟨t, derived, reads⟩ := walk cdv A outer s H vs Q E (room.deeper _) calm want
    have inv := inv_start (CX := CX) (E := E) S room.hd env size vals hx
    refine wpAny_mono (derived.run [] s1 (start N vs) H _ inv reads) ?_ ?_
    · intro fl s' hs
      have stop : ∀ {σ' : L2.St} {H' : Hp} {v : V} {u : Value},
          Inv (cxOf CX P w K mg base N qual (defScope st) f cdv A outer s H E) [] σ' H' s' →
          RelV v u → Q v H' → CE outer P w H s Q u s' := by
        intro σ' H' v u J rv q
        exact ⟨v, H', J.os, J.bare, J.base, J.hok, rv, q⟩
      cases fl with
      | ret u => exact let ⟨v, σ', H', J, rv, q⟩ := hs; stop J rv q
      | next => exact let ⟨σ', H', J, q⟩ := hs; stop (v := V.non) (u := Value.none) J rfl q
      | brk => exact let ⟨_, _, _, q⟩ := hs; q.elim
      | cont => exact let ⟨_, _, _, q⟩ := hs; q.elim
    · exact fun e s' hs => hs
/-- the same where nothing that is raised leaves the def -/
theorem keeps0 {k : Nat} {f : Addr} {x qual : Str} {st : Stmt} {fd : FuncData} {N ps : List Str} {sp : Sp} (F : Fun K x qual st f fd) (S : FnScope N ps (defScope st))
    (many : ∀ vs H Q E, sp vs H Q E → vs.length = ps.length)
    (walk : ∀ (cdv : Value) (A : Around) (outer : List Env) (s : Shared) (H : Hp) (vs : List V) (Q : VK) (E : XK),
      Room k (A.deeper (envOfC qual (defScope st) s.heap.objs.size f cdv)) → A.guards = some [] → sp vs H Q E →
      ∃ t, PSs (cxOf CX0 P w K mg base N qual (defScope st) f cdv A outer s H E).nox (defBody st) t ∧
        t { nx := fun _ H' => Q .non H', rt := Q } (start N vs) H) :
    Keeps P w K mg base CX0 (k + 1) f fd ps sp :=
  keeps_of F S many fun cdv A outer s H vs Q E room calm want => let ⟨t, d, r⟩ := walk cdv A outer s H vs Q E room calm want; ⟨t, d.nox, r⟩
end

section
variable {X : Cx} {CX : CXT} {k : Nat} {f C : Addr} {fd : FuncData} {ps : List Str} {sp : Sp} {dvs : List V} {ds : List Value} {E : XK}
/-- the value of a call of such a def -/
theorem callR_fn (F : Keeps X.prog X.w X.K X.mg X.base CX k f fd ps sp) (room : Room k X.A) (calm : X.A.guards = some []) (bind : Binds X.K fd ps ds) (dv : Vals dvs ds) (pass : Passes CX X E) :
    CallR X (.ref f) (fun vs H Q => sp (vs ++ dvs) H Q E) := by
  intro pins s σ H vs us Q I vals want
  have all : Vals (vs ++ dvs) (us ++ ds) := vals.append dv
  have size : (us ++ ds).length = ps.length := all.length.symm.trans (F.many _ _ _ _ want)
  refine wpAny_call (codeAny_mono (F.go X.A X.stack s H ⟨us, []⟩ (us ++ ds) (vs ++ dvs) Q E room calm I.env0
    (bind s us I.kIn size) all want) ?_)
  intro r s' hr
  rcases r with e | fl
  · exact pass pins σ H s e s' I hr
  · cases fl <;> first | exact I.after hr | exact hr.elim
/-- C(..), an own class with such an __init__ -/
theorem callR_make (M : Mk X.K C f) (F : Keeps X.prog X.w X.K X.mg X.base CX k f fd ps sp) (room : Room (k + 1) X.A) (calm : X.A.guards = some []) (bind : Binds X.K fd ps ds) (dv : Vals dvs ds) (pass : Passes CX X E) :
    CallR X (.ref C) (fun vs H Q => ∀ x dx, H x = none → H dx = none → dx ≠ x →
      sp (.ref x :: (vs ++ dvs)) (upd (upd H dx (.own x)) x (.ins C dx [])) (fun v H2 => v = .non ∧ Q (.ref x) H2) E) := by
  intro pins s σ H vs us Q I vals want
  have at0 := want (s.heap.objs.size + 1) s.heap.objs.size (I.hok.fresh (Nat.le_succ _)) (I.hok.fresh (Nat.le_refl _))
    (Nat.ne_of_lt (Nat.lt_succ_self _))
  have J := Inv.made (C := C) I
  have all : Vals (V.ref (s.heap.objs.size + 1) :: (vs ++ dvs)) (Value.ref (s.heap.objs.size + 1) :: (us ++ ds)) :=
    .cons rfl (vals.append dv)
  have size : (Value.ref (s.heap.objs.size + 1) :: us ++ ds).length = ps.length :=
    (all.length.symm.trans (F.many _ _ _ _ at0) : _)
  have calm2 : (X.A.under (.builtin "type.__call__" ⟨Value.ref C :: us, []⟩)).guards = some [] := by
    show pushGuards (Code.builtin "type.__call__" ⟨Value.ref C :: us, []⟩).guards X.A.guards = some []
    rw [calm]; rfl
  refine wpAny_call (make_map (f := f) I.kIn M.makes M.init (beq_iff_eq.mp M.fn) (codeAny_mono
    (F.go _ X.stack _ _ ⟨Value.ref (s.heap.objs.size + 1) :: us, []⟩ (Value.ref (s.heap.objs.size + 1) :: (us ++ ds)) _ _ E
      (room.make C us []) calm2 (J.env0.make C us []) (bind _ (Value.ref (s.heap.objs.size + 1) :: us) J.kIn size) all at0) ?_))
  intro r s' hr
  rcases r with e | fl
  · exact pass pins σ _ _ e s' J hr
  · cases fl <;> first | exact hr.elim | skip
    obtain ⟨v, H', J2, rv, ev, q⟩ := J.after hr
    subst ev
    exact ⟨rv, ⟨V.ref (s.heap.objs.size + 1), H', J2, rfl, q⟩⟩

variable {x m : Str} {p pos apos : Pos} {e o : Expr} {es : List Expr} {ta : TE} {t : TA} {r : List V → Hp → VK → Prop}
/-- x(e, ..), x a name of the module that holds the thing at f -/
theorem pe_v (c : CallR X (.ref f) r) (hg : Gl X x) (hm : X.mg x = some (.ref f)) (kept : PySem.W.keepIn X.K (.ref f) = true) (ha : PA X (e :: es) t)
    (nd : (x == ("__debug__" : Str)) = false := by decide) (h1 : starEach (e :: es) X.env = (false, eval e X.env) :: starEach es X.env := by rfl)
    (h2 : (backTo pos (starEach es X.env)).any (·.1) = false := by rfl) : PE X (.Call (.Name x p) (e :: es) [] pos) (tCB r t) := by
  constructor
  intro pins s σ H Q I h
  refine wpAny_Call_Name_kw (ld_glob I hg hm ?_ nd)
  refine PySem.W.callWith_K (h₀ := X.base) I.ok.mod.kin kept (thn (ha.run pos pins s σ H _ I h) ?_) h1 h2
  rintro us s1 ⟨vs, H1, J, vals, q⟩
  exact ⟨J.kIn, c pins s1 σ H1 vs us Q J vals q⟩
theorem pe_v0 (c : CallR X (.ref f) r) (hg : Gl X x) (hm : X.mg x = some (.ref f)) (kept : PySem.W.keepIn X.K (.ref f) = true)
    (nd : (x == ("__debug__" : Str)) = false := by decide) : PE X (.Call (.Name x p) [] [] pos) (tCB r tNil) := by
  constructor
  intro pins s σ H Q I h
  refine wpAny_Call_Name_kw (ld_glob I hg hm ?_ nd)
  exact PySem.W.callWith_K0 I.kIn kept (c pins s σ H [] [] Q I .nil h)
/-- o.m(e, ..) of an instance of the class at C -/
def tMth (C : Addr) (m : Str) (r : List V → Hp → VK → Prop) (ta : TE) (t : TA) : TE := fun σ H Q => ta σ H fun x H1 =>
  ∃ a dx fs, x = .ref a ∧ H1 a = some (.ins C dx fs) ∧ fs.lookup m = none ∧ t σ H1 fun vs H2 => r (x :: vs) H2 Q
theorem pe_w {pl : Sem Bool} (he : PE X o ta) (cl : Cls X.K C) (hm : Meth X.K C m f) (c : CallR X (.ref f) r) (ha : PA X (e :: es) t)
    (h1 : starEach (e :: es) X.env = (false, eval e X.env) :: starEach es X.env := by rfl) (h2 : (backTo pos (starEach es X.env)).any (·.1) = false := by rfl)
    (h3 : eval (.Call (.Attribute o m apos) (e :: es) [] pos) X.env = (do
      let ov ← eval o X.env
      standAt apos.atName
      let (g, first) ← holding [ov] (getMethod ov m pl)
      callWith pos g first (backTo pos (starEach (e :: es) X.env)) (backToKw pos (keywordEach [] X.env))) := by rfl) :
    PE X (.Call (.Attribute o m apos) (e :: es) [] pos) (tMth C m r ta t) := by
  constructor
  intro pins s σ H Q I h
  refine PySem.W.methodCall_KW (pl := pl) (thn (he.run pins s σ H _ I h) ?_) h3
  rintro u s1 ⟨y, H1, J, ry, a, dx, fs, rfl, ea, no, q⟩
  cases (show u = Value.ref a from ry)
  refine getmeth_ok J ea cl hm no ?_
  refine PySem.W.callWith_K (first := [.ref a]) (h₀ := X.base) I.ok.mod.kin hm.kp (thn (ha.run pos pins s1 σ H1 _ J q) ?_) h1 h2
  rintro us s2 ⟨vs, H2, J2, vals, q2⟩
  exact ⟨J2.kIn, c pins s2 σ H2 (.ref a :: vs) (.ref a :: us) Q J2 (.cons rfl vals) q2⟩
theorem pe_w0 {pl : Sem Bool} (he : PE X o ta) (cl : Cls X.K C) (hm : Meth X.K C m f) (c : CallR X (.ref f) r)
    (h3 : eval (.Call (.Attribute o m apos) [] [] pos) X.env = (do
      let ov ← eval o X.env
      standAt apos.atName
      let (g, first) ← holding [ov] (getMethod ov m pl)
      callWith pos g first (backTo pos (starEach [] X.env)) (backToKw pos (keywordEach [] X.env))) := by rfl) :
    PE X (.Call (.Attribute o m apos) [] [] pos) (tMth C m r ta tNil) := by
  constructor
  intro pins s σ H Q I h
  refine PySem.W.methodCall_KW (pl := pl) (thn (he.run pins s σ H _ I h) ?_) h3
  rintro u s1 ⟨y, H1, J, ry, a, dx, fs, rfl, ea, no, q⟩
  cases (show u = Value.ref a from ry)
  refine getmeth_ok J ea cl hm no ?_
  exact PySem.W.callWith_K0 (first := [.ref a]) J.kIn hm.kp (c pins s1 σ H1 [.ref a] [.ref a] Q J (.cons rfl .nil) q)
end
end Hv
end

section
namespace Hv
open PySem PySem.Spec PyProof.Rows L2
section
variable {P : Program} {w : World} {K : PySem.W.Frag} {mg mb : Str → Option Value} {k : Nat} {fa a : Addr} {fd : FuncData} {x : Str} {sp : Sp} {s₁ : Shared} {vs : List Value} {ns : List Int}
/-- the law's call, from the heap behind the top, over an abstract heap that bears the script at most -/
theorem call_over (inK : K.In s₁.heap) (globs : s₁.heap.Ns mainGlobals mg) (blt : s₁.heap.Ns builtinsNs mb) (boot : ∀ x : Str, x ≠ "__name__" → mb x = bootBuiltins x)
    (free : s₁.heap.NoLimit) (nogens : s₁.gens = #[]) (obj : s₁.heap.get? a = some { cls := .type "list", data := .seq vs.toArray }) (room : Room k callerA)
    (F : ∀ base : Heap, K.In base → base.Ns mainGlobals mg → Keeps P w K mg base CX0 k fa fd [x] sp)
    (bind : ∀ (s : Shared) (u : Value), BindsTo s fd ⟨[u], []⟩ [(x, u)])
    (H : Hp) (only : Only H) (ok : HOk P w H s₁.heap) (alone : ∀ b, H b ≠ none → b = a) (apart : H a ≠ none → K.lookup a = none)
    (want : sp [.ref a] H (fun v _ => v = .bl true) E0) :
    codeAny (model P w) callerA (.call (.ref fa) ⟨[.ref a], []⟩)
      (fun r s' => r = .ok (.ret (.bool true)) ∧ OldK s₁.heap s'.heap ∧ s'.os = s₁.os ∧ AllBare s'.gens) s₁ := by
  have keep : ∀ {b : Addr} {o : Obj}, s₁.heap.get? b = some o → H b = none → (hidT s₁.heap H).get? b = some o :=
    fun e n => hidT_get e n
  have plain : ∀ {b : Addr} {o : Obj} {es : Array DictEntry} {ep : Nat}, s₁.heap.get? b = some o → o.data = .dict es ep → H b = none := by
    intro b o es ep e d
    by_cases hb : H b = none
    · exact hb
    · obtain rfl := alone b hb
      rw [obj] at e
      cases e
      cases (show Data.seq vs.toArray _ = Data.dict es ep from d)
  have names : ∀ {b : Addr} {m : Str → Option Value}, s₁.heap.Ns b m → (hidT s₁.heap H).Ns b m := by
    rintro b m ⟨o, es, ep, e, d, r⟩
    exact ⟨o, es, ep, keep e (plain e d), d, r⟩
  have inBase : K.In (hidT s₁.heap H) := by
    intro b o e
    refine keep (inK b o e) ?_
    by_cases hb : H b = none
    · exact hb
    · have eb := alone b hb
      subst eb
      rw [apart hb] at e
      cases e
  have limit : (hidT s₁.heap H).NoLimit := let ⟨mc, h1, h2⟩ := free; ⟨mc, names h1, h2⟩
  have md : Mod K mg (hidT s₁.heap H) := ⟨inBase, names globs, ⟨mb, names blt, boot⟩, limit⟩
  have env : Env0 P w K mg (hidT s₁.heap H) callerA [] s₁ H :=
    { frames := rfl, mod := md, bs := fun b o e => of_hidT e, bsz := Nat.le_of_eq (hidT_size _ _), funs := trivial,
      frf := fun b hb => absurd (show b ∈ ([] : List Addr) from hb) (by simp), hok := ok, bare := .of_eq nogens }
  refine codeAny_mono ((F _ inBase (names globs)).go callerA [] s₁ H ⟨[.ref a], []⟩ [.ref a] [.ref a] _ _ room rfl env
    (bind s₁ (.ref a)) (.cons rfl .nil) want) ?_
  intro r s' hr
  rcases r with e | fl
  · exact hr.elim
  · cases fl <;> first | exact hr.elim | skip
    obtain ⟨v, H', os, bare, un, ok', rv, q⟩ := hr
    subst q
    cases (show _ = Value.bool true from rv)
    refine ⟨rfl, OldK.of_keep ?_, os, bare⟩
    intro b o e
    rcases only b with z | ⟨ob, xs, z⟩
    · exact un.keep b o e z (by intro y; exact absurd (show b ∈ ([] : List Addr) from y) (by simp)) (by simp)
    · have old := (ok b _ z).1
      have new := (ok' b _ (un.frzs b ob _ z)).1
      rw [e] at old
      cases old
      exact new
/-- the same, the abstract heap made here -/
theorem call_law (inK : K.In s₁.heap) (globs : s₁.heap.Ns mainGlobals mg) (blt : s₁.heap.Ns builtinsNs mb) (boot : ∀ x : Str, x ≠ "__name__" → mb x = bootBuiltins x)
    (free : s₁.heap.NoLimit) (nogens : s₁.gens = #[]) (obj : s₁.heap.get? a = some { cls := .type "list", data := .seq vs.toArray }) (areInts : IntsAre vs ns)
    (few : ns.length ≤ sizeLine) (room : Room k callerA)
    (F : ∀ base : Heap, K.In base → base.Ns mainGlobals mg → Keeps P w K mg base CX0 k fa fd [x] sp)
    (bind : ∀ (s : Shared) (u : Value), BindsTo s fd ⟨[u], []⟩ [(x, u)])
    (want : ∀ H : Hp, Only H → SqL K H a (ns.map V.int) → sp [.ref a] H (fun v _ => v = .bl true) E0) :
    codeAny (model P w) callerA (.call (.ref fa) ⟨[.ref a], []⟩)
      (fun r s' => r = .ok (.ret (.bool true)) ∧ OldK s₁.heap s'.heap ∧ s'.os = s₁.os ∧ AllBare s'.gens) s₁ := by
  have rv := vals_ints areInts
  have size := areInts.length
  have go := fun H only sq ok alone apart => call_over inK globs blt boot free nogens obj room F bind H only ok alone apart (want H only sq)
  by_cases hk : ∃ o, K.lookup a = some o
  · obtain ⟨o, hk⟩ := hk
    have e := inK a o hk
    rw [obj] at e
    cases e
    refine go (fun _ => none) (fun _ => Or.inl rfl) ?_ ?_ (fun b z => absurd rfl z) (fun z => absurd rfl z)
    · refine Or.inr ⟨_, vs.toArray, _, hk, rfl, rfl, rfl, ?_, ?_⟩
      · rw [List.size_toArray, size]; exact few
      · simpa using rv
    · intro b u z
      cases (show (none : Option HO) = some u from z)
  · have hk' : K.lookup a = none := by
      cases h : K.lookup a with
      | none => rfl
      | some o => exact absurd ⟨o, h⟩ hk
    let ob : Obj := { cls := .type "list", data := .seq vs.toArray }
    let H : Hp := fun b => if b = a then some (.frz ob (.lst (ns.map V.int))) else none
    have at_a : H a = some (.frz ob (.lst (ns.map V.int))) := if_pos rfl
    have off_a : ∀ {b}, b ≠ a → H b = none := fun h => if_neg h
    refine go H (fun b => ?_) (Or.inl (Or.inr ⟨ob, at_a⟩)) (fun b u z => ?_) (fun b z => ?_) fun _ => hk'
    · by_cases hb : b = a
      · subst hb; exact Or.inr ⟨_, _, at_a⟩
      · exact Or.inl (off_a hb)
    · by_cases hb : b = a
      · subst hb
        rw [at_a] at z
        cases z
        exact ⟨obj, by rw [List.length_map]; exact few, vs, _, rv, obj⟩
      · rw [off_a hb] at z; cases z
    · by_cases hb : b = a
      · exact hb
      · exact absurd (off_a hb) z
end
/-- the end: a law's row from the promise of its def -/
theorem walkK {l : PySem.W.OpenLaw} {n k : Nat} {q : Program} {loose : List Str} {XP : (Str → Option Value) → Heap → Prop} {YP : World → Heap → Prop} {d : DefRec} {K : Params → PySem.W.Frag} {sp : PySem.W.Frag → Sp} {x : Str}
    (hn : l.most = some n) (few : n ≤ sizeLine) (plain : d.params.defaults = []) (room : Room k callerA)
    (hY : ∀ (w : World) (h : Heap), YP w h → (K w.params).In h)
    (F : ∀ (w : World) (mg : Str → Option Value) (fa : Addr) (h : Heap), (K w.params).In h → h.Ns mainGlobals mg → mg d.name = some (.ref fa) →
      ∃ fd : FuncData, (∀ (s : Shared) (u : Value), BindsTo s fd ⟨[u], []⟩ [(x, u)]) ∧
        ∀ base : Heap, (K w.params).In base → base.Ns mainGlobals mg → Keeps l.prog w (K w.params) mg base CX0 k fa fd [x] (sp (K w.params)))
    (want : ∀ (K : PySem.W.Frag) (H : Hp) (a : Addr) (ns : List Int), ns.length ≤ n → (∀ i ∈ ns, Builtin.Int.intBits i ≤ 1048576) → Only H → SqL K H a (ns.map V.int) → sp K [.ref a] H (fun v _ => v = .bl true) E0) :
    PySem.W.WalkO q loose XP YP l.row.toRowW d [] (fun f vs => PySem.call f vs) := by
  refine Att.attach_callB hn plain fun w s₀ s₁ mg mb fa o pm cd doc a vs ns G Y ho hd hcd hmg hobj hints hlen bits hg => ?_
  have inK := hY w _ Y
  obtain ⟨fd, bind, keeps⟩ := F w mg fa _ inK G.T.g hmg
  exact call_law inK G.T.g G.T.b G.T.builtins G.T.nolimit hg hobj hints (Nat.le_trans hlen few) room keeps bind
    fun H only sq => want _ H a ns hlen bits only sq
end Hv
end

section
/-! Rules of our own: order of texts, repr of data, kinds of values, comprehensions that keep and change items. -/
namespace Hv
open PySem PySem.Spec PyProof.Rows L2
section
variable {X : Cx}
theorem op_leS : OpR X (compareOp .LtE) (fun x y H Q => ∃ i j, x = .str i ∧ y = .str j ∧ Q (.bl (!decide (j.cps.toList < i.cps.toList))) H) := by
  intro pins s σ H x y v u Q I rx ry h
  obtain ⟨i, j, rfl, rfl, q⟩ := h
  obtain ⟨t, rfl⟩ := rx
  obtain ⟨t', rfl⟩ := ry
  exact PySem.P.le_str ⟨.bl _, H, I, rfl, q⟩

/-- data of the heap: as Dp, with dicts whose keys are ints and texts -/
inductive Da (K : PySem.W.Frag) (H : Hp) : V → PyData → Prop
  | dp {v : V} {d : PyData} : Dp K H v d → Da K H v d
/-- repr of a list or tuple of data -/
theorem call_reprD (calm : X.A.guards = some []) (hu : X.A.units + 70 < cLine) : CallR X (.builtin "repr") (fun xs H Q => ∃ (a : Addr) (d : PyData),
    xs = [.ref a] ∧ Dp X.K H (.ref a) d ∧ d.showable = true ∧ d.hasDict = false ∧ d.depth ≤ 60 ∧ d.shown.length ≤ sizeLine ∧ Q (.str d.shown) H) := by
  intro pins s σ H xs us Q I r h
  obtain ⟨a, d, rfl, dp, sh, nd, dep, sz, q⟩ := h
  obtain ⟨u, rfl, ru⟩ := Vals.one r
  cases (show u = Value.ref a from ru)
  obtain ⟨as, rd⟩ := Dp.reads I d (.ref a) (.ref a) dp rfl
  refine repr_of_reads' rd sh (fun z => by rw [nd] at z; cases z) calm (by omega) (fun _ _ e => e) ?_ sz
  intro h' tk n k
  exact ⟨.str d.shown, H, I.kept (t' := n) k, ⟨_, rfl⟩, q⟩
end
/-- a value is the text told, or of another kind than a text -/
inductive Kd (K : PySem.W.Frag) (H : Hp) : V → Option Str → Prop
  | str (z : Str) : Kd K H (.str z) (some z)
  | oth {x : V} {t : Value} (ty : TyX K H x t) (no : PySem.W.kitOne K t (.type "str") = some false) : Kd K H x none
/-- isinstance(x, str) -/
theorem Kd.ty {K : PySem.W.Frag} {H : Hp} {x : V} {o : Option Str} (h : Kd K H x o) : ∃ t, TyX K H x t ∧ PySem.W.kitOne K t (.type "str") = some o.isSome := by
  cases h with
  | str z => exact ⟨_, .base (.str z), kit_ty (show kitB "str" "str" = some true by decide +kernel)⟩
  | oth ty no => exact ⟨_, ty, no⟩
theorem same_ty {K : PySem.W.Frag} {H H' : Hp} {x : V} {t : Value} (s : Same H H') (h : TyX K H x t) : TyX K H' x t := by
  cases h with
  | base b =>
    refine .base ?_
    cases b with
    | non => exact .non
    | bl y => exact .bl y
    | int i => exact .int i
    | str y => exact .str y
    | flt y => exact .flt y
    | lst e => exact .lst (s _ _ e)
    | frz e => exact .frz (s _ _ e)
    | tup e => exact .tup (s _ _ e)
    | dK e => exact .dK (s _ _ e)
    | dT e => exact .dT (s _ _ e)
    | ins e a b c d f => exact .ins (s _ _ e) a b c d f
  | byt b => exact .byt b
  | set e => exact .set (s _ _ e)
  | kList e c => exact .kList e c
  | kTuple e c => exact .kTuple e c
  | kDict e c => exact .kDict e c
  | fTuple e => exact .fTuple (s _ _ e)
  | fDict e => exact .fDict (s _ _ e)
theorem same_kd {K : PySem.W.Frag} {H H' : Hp} {x : V} {o : Option Str} (s : Same H H') (h : Kd K H x o) : Kd K H' x o := by
  cases h with
  | str z => exact .str z
  | oth ty no => exact .oth (same_ty s ty) no
theorem same_new {H : Hp} {p : Addr} {o : HO} (h : H p = none) : Same H (upd H p o) := fun b u e => by
  rw [upd_ne (ne_of_none e h)]; exact e
theorem same_put {H H' : Hp} {D : Addr} {o : HO} (s : Same H H') (h : H D = none) : Same H (upd H' D o) := fun b u e => by
  rw [upd_ne (ne_of_none e h)]; exact s b u e

/-- a comprehension that walks a text and makes of each sign a value by f, or leaves it out -/
theorem lc_text {x : Str} {f : Nat → Option V} {g : TG} {tt : TT} {te : TE} {vs : List Nat} {σ : L2.St} {H1 : Hp} {D : Addr} {Qd : Hp → Prop}
    (new : H1 D = none) (short : x.cps.size < sizeLine)
    (turn : ∀ (c : Nat) (H : Hp) (Post : Bool → V → Hp → Prop), Same H1 H →
      (∀ y H4, f c = some y → Same H H4 → Post true y H4) → (∀ H4, f c = none → Same H H4 → Post false .non H4) →
      g (.str ⟨#[c]⟩) (wipe σ vs) H fun σ2 H2 => wipe σ2 vs = wipe σ vs ∧ tt σ2 H2 fun b H3 => if b = true then te σ2 H3 fun y H4 => Post true y H4 else Post false .non H3)
    (done : ∀ H, Same H1 H → H D = some (.lst (x.cps.toList.filterMap f)) → Qd H) :
    ∃ W : Nat → Nat → Hp → Prop, (∃ m, W 0 m (upd H1 D (.lst []))) ∧ ∀ i m H, W i m H →
      ((Its x).stop i H ∧ Qd H) ∨ ((Its x).go i H ∧ ∃ Nx : Hp → Prop, (∀ H', Nx H' → ∃ m', m' < m ∧ W (i + 1) m' H') ∧ ∀ v H', (Its x).yld i H v H' → g v (wipe σ vs) H' fun σ2 H2 => wipe σ2 vs = wipe σ vs ∧ tt σ2 H2 fun b H3 =>
        if b = true then te σ2 H3 fun y H4 => ∃ acc, H4 D = some (.lst acc) ∧ acc.length < sizeLine ∧ Nx (upd H4 D (.lst (acc ++ [y]))) else Nx H3) := by
  refine ⟨fun i m H => m = x.cps.size - i ∧ i ≤ x.cps.size ∧ Same H1 H ∧ H D = some (.lst ((x.cps.toList.take i).filterMap f)), ⟨_, rfl, Nat.zero_le _, ?_, ?_⟩, ?_⟩
  · exact same_new new
  · exact upd_same
  · rintro i m H ⟨rfl, hi, sm, at_D⟩
    by_cases lt : i < x.cps.size
    · refine .inr ⟨lt, fun H => Same H1 H ∧ H D = some (.lst ((x.cps.toList.take (i + 1)).filterMap f)), fun H' q => ⟨_, by omega, rfl, lt, q⟩, ?_⟩
      rintro v H' ⟨rfl, c, hc, rfl⟩
      have hc' : x.cps.toList[i]? = some c := by simpa using hc
      have step : (x.cps.toList.take (i + 1)).filterMap f = (x.cps.toList.take i).filterMap f ++ (match f c with | some y => [y] | none => []) := by
        rw [List.take_add_one, hc', Option.toList_some, List.filterMap_append]
        cases e : f c <;> simp [List.filterMap, e]
      have small : ((x.cps.toList.take i).filterMap f).length < sizeLine := by
        refine Nat.lt_of_le_of_lt (List.length_filterMap_le _ _) (Nat.lt_of_le_of_lt ?_ short)
        rw [List.length_take]
        simp only [Array.length_toList]
        omega
      refine turn c H' (fun b y H4 => if b = true then ∃ acc, H4 D = some (.lst acc) ∧ acc.length < sizeLine ∧ (Same H1 (upd H4 D (.lst (acc ++ [y]))) ∧ upd H4 D (.lst (acc ++ [y])) D = some (.lst ((x.cps.toList.take (i + 1)).filterMap f))) else (Same H1 H4 ∧ H4 D = some (.lst ((x.cps.toList.take (i + 1)).filterMap f)))) sm ?_ ?_
      · intro y H4 e k
        rw [if_pos rfl]
        refine ⟨_, k _ _ at_D, small, same_put (sm.trans k) new, ?_⟩
        rw [upd_same, step, e]
      · intro H4 e k
        rw [if_neg (by decide)]
        refine ⟨sm.trans k, ?_⟩
        rw [k _ _ at_D, step, e, List.append_nil]
    · have e : i = x.cps.size := by omega
      subst e
      refine .inl ⟨Nat.le_refl _, done H sm ?_⟩
      rw [at_D]
      congr 3
      exact List.take_of_length_le (by simp)
end Hv
end

section
/-! Texts: pieces, the stroke ahead, single signs. -/
namespace Hv
open PySem PySem.Spec PyProof.Rows L2
theorem str_ext {a b : Str} (h : a.cps.toList = b.cps.toList) : a = b := by
  obtain ⟨⟨a⟩⟩ := a
  obtain ⟨⟨b⟩⟩ := b
  simp only at h
  rw [h]
theorem str_len (z : Str) : z.length = z.cps.toList.length := by simp [Str.length]
theorem parts_short (x : Str) (w : Nat) : ∀ (cuts : List Nat) (a : Nat), ∀ p ∈ StrLaws.partsFrom x w a cuts, p.length ≤ x.length
  | [], a, p, h => by
    rw [show p = Builtin.Str.strSub x a x.length by simpa [StrLaws.partsFrom] using h]
    exact le_strSub x a x.length
  | c :: r, a, p, h => by
    rcases List.mem_cons.mp (show p ∈ Builtin.Str.strSub x a c :: StrLaws.partsFrom x w (c + w) r from h) with e | e
    · rw [e]; exact le_strSub x a c
    · exact parts_short x w r _ p e
theorem split_short (x y : Str) : ∀ p ∈ Txt.split x y, p.length ≤ x.length := by
  intro p h
  unfold Txt.split at h
  split at h
  · rw [show p = x by simpa using h]; exact Nat.le_refl _
  · split at h
    · rw [show p = x by simpa using h]; exact Nat.le_refl _
    · rw [StrLaws.partsBetween_eq] at h
      exact parts_short x _ _ _ p h
/-- a stroke stands ahead -/
def slash (z : Str) : Bool := decide (z.cps.toList.head? = some 47)
def unslash (z : Str) : Str := ⟨(z.cps.toList.drop (if slash z then 1 else 0)).toArray⟩
theorem code_slash : (Str.ofString "/") = (⟨#[47]⟩ : Str) := by decide +kernel
theorem head_get {α : Type} (l : List α) : l[0]? = l.head? := by cases l <;> rfl
theorem sub_slash (z : Str) : Builtin.Str.subAt z (⟨#[47]⟩ : Str) 0 = slash z := by
  have q := StrLaws.subAt_one z 47 0
  rw [head_get] at q
  rw [Bool.eq_iff_iff]
  unfold slash
  rw [decide_eq_true_iff, ← q]
  constructor
  · intro h
    refine ⟨?_, h⟩
    rw [StrLaws.subAt_eq] at h
    have h' : ((z.cps.toList.drop 0).take 1 == [47]) = true := h
    have e2 := str_len z
    cases e : z.cps.toList with
    | nil => rw [e] at h'; cases h'
    | cons c r =>
      rw [e, List.length_cons] at e2
      show 0 + 1 ≤ z.length
      omega
  · exact fun h => h.2
theorem take_tail (z : Str) : List.take (z.cps.size - 1) z.cps.toList.tail = z.cps.toList.tail :=
  List.take_of_length_le (by simp)
/-- removeprefix('/') -/
theorem prefix_slash (z : Str) : Txt.removeprefix z (Str.ofString "/") = unslash z := by
  rw [code_slash]
  unfold Txt.removeprefix unslash
  rw [sub_slash]
  cases h : slash z with
  | false => exact str_ext (by simp [Txt.affix])
  | true =>
    refine str_ext ?_
    rw [if_pos rfl]
    show (if (z.length - 1 == z.length) = true then z else Builtin.Str.strSub z 1 z.length).cps.toList = _
    have ne : z.length ≠ 0 := by
      intro e
      have q := of_decide_eq_true h
      rw [str_len] at e
      rw [List.length_eq_zero_iff.mp e] at q
      cases q
    rw [if_neg (by rw [beq_iff_eq]; omega)]
    simp [Builtin.Str.strSub, Str.length, take_tail]
/-- z[int(z[:1] == '/'):] -/
theorem cut_slash (z : Str) : cutS z (some (if slash z then (1 : Int) else 0)) none = unslash z := by
  refine str_ext ?_
  unfold cutS unslash
  cases h : slash z with
  | false =>
    simp only [Bool.false_eq_true, if_false]
    show ((z.cps.toList.drop (HT.sIx z.length 0 (some ((0 : Nat) : Int)))).take (HT.sIx z.length z.length none - HT.sIx z.length 0 (some ((0 : Nat) : Int)))).toArray.toList = _
    rw [HT.sIx_nat, HT.sIx_none, Nat.zero_min]
    simp [str_len, List.take_of_length_le]
  | true =>
    simp only [if_true]
    show ((z.cps.toList.drop (HT.sIx z.length 0 (some ((1 : Nat) : Int)))).take (HT.sIx z.length z.length none - HT.sIx z.length 0 (some ((1 : Nat) : Int)))).toArray.toList = _
    rw [HT.sIx_nat, HT.sIx_none]
    have ne : 1 ≤ z.length := by
      have q := of_decide_eq_true h
      rw [str_len]
      cases e : z.cps.toList with
      | nil => rw [e] at q; cases q
      | cons c r => simp
    rw [show min 1 z.length = 1 by omega]
    simp [str_len, take_tail]
/-- z[:1] == '/' -/
theorem first_slash (z : Str) : decide (cutS z none (some 1) = (Str.ofString "/")) = slash z := by
  rw [code_slash]
  unfold slash
  refine decide_eq_decide.mpr ?_
  have e : (cutS z none (some 1)).cps.toList = z.cps.toList.take 1 := by
    unfold cutS
    show ((z.cps.toList.drop (HT.sIx z.length 0 none)).take (HT.sIx z.length z.length (some ((1 : Nat) : Int)) - HT.sIx z.length 0 none)).toArray.toList = _
    rw [HT.sIx_nat, HT.sIx_none, str_len]
    cases z.cps.toList <;> simp
  constructor
  · intro q
    rw [q] at e
    cases h : z.cps.toList with
    | nil => rw [h] at e; simp at e
    | cons c r => rw [h] at e; simpa using e.symm
  · intro q
    refine str_ext ?_
    rw [e]
    cases h : z.cps.toList with
    | nil => rw [h] at q; cases q
    | cons c r => rw [h] at q; simpa using q
theorem unslash_short (z : Str) : (unslash z).length ≤ z.length := by
  rw [str_len, str_len]
  show (z.cps.toList.drop _).length ≤ _
  rw [List.length_drop]
  omega
theorem sub_codes (x : Str) (i j : Nat) : ∀ c ∈ (Builtin.Str.strSub x i j).cps.toList, c ∈ x.cps.toList := by
  intro c h
  have e : (Builtin.Str.strSub x i j).cps.toList = (x.cps.toList.drop i).take (j - i) := by simp [Builtin.Str.strSub]
  rw [e] at h
  exact List.mem_of_mem_drop (List.mem_of_mem_take h)
theorem parts_codes (x : Str) (w : Nat) : ∀ (cuts : List Nat) (a : Nat), ∀ p ∈ StrLaws.partsFrom x w a cuts, ∀ c ∈ p.cps.toList, c ∈ x.cps.toList
  | [], a, p, h => by
    rw [show p = Builtin.Str.strSub x a x.length by simpa [StrLaws.partsFrom] using h]
    exact sub_codes x a x.length
  | c :: r, a, p, h => by
    rcases List.mem_cons.mp (show p ∈ Builtin.Str.strSub x a c :: StrLaws.partsFrom x w (c + w) r from h) with e | e
    · rw [e]; exact sub_codes x a c
    · exact parts_codes x w r _ p e
theorem split_codes (x y : Str) : ∀ p ∈ Txt.split x y, ∀ c ∈ p.cps.toList, c ∈ x.cps.toList := by
  intro p h
  unfold Txt.split at h
  split at h
  · rw [show p = x by simpa using h]; exact fun _ h => h
  · split at h
    · rw [show p = x by simpa using h]; exact fun _ h => h
    · rw [StrLaws.partsBetween_eq] at h
      exact parts_codes x _ _ _ p h
theorem unslash_codes (z : Str) : ∀ c ∈ (unslash z).cps.toList, c ∈ z.cps.toList := fun c h => List.mem_of_mem_drop (show c ∈ z.cps.toList.drop _ from h)
end Hv
end

section
namespace Hv
open PySem PySem.Spec PyProof.Rows L2
/-- what is walked gives these items, whatever comes beside what is tracked at H1 -/
structure Gives (J : It) (H1 : Hp) (items : List V) : Prop where
  go : ∀ i H, Same H1 H → i < items.length → J.go i H
  yld : ∀ i H x H', Same H1 H → J.yld i H x H' → i < items.length → H' = H ∧ items[i]? = some x
  stop : ∀ H, Same H1 H → J.stop items.length H
theorem gives_list {K : PySem.W.Frag} {H : Hp} {a : Addr} {xs : List V} (h : SqL K H a xs) : Hv.Gives (Itl K a) H xs where
  go := fun i H' s lt => ⟨xs, xs[i], s.seq h, by simp [lt]⟩
  yld := fun i H' x H'' s y lt => ⟨y.1, y.2 xs (s.seq h)⟩
  stop := fun H' s => ⟨xs, s.seq h, Nat.le_refl _⟩
theorem same_tup {K : PySem.W.Frag} {H H' : Hp} {a : Addr} {xs : List V} (e : Same H H') (h : SqT K H a xs) : SqT K H' a xs := by
  rcases h with (h | ⟨o, h⟩) | h
  · exact Or.inl (Or.inl (e _ _ h))
  · exact Or.inl (Or.inr ⟨o, e _ _ h⟩)
  · exact Or.inr h
theorem gives_tup {K : PySem.W.Frag} {H : Hp} {a : Addr} {xs : List V} (h : SqT K H a xs) : Hv.Gives (Itt K a) H xs where
  go := fun i H' s lt => ⟨xs, xs[i], same_tup s h, by simp [lt]⟩
  yld := fun i H' x H'' s y lt => ⟨y.1, y.2 xs (same_tup s h)⟩
  stop := fun H' s => ⟨xs, same_tup s h, Nat.le_refl _⟩
theorem gives_rng {H : Hp} {lo : Int} {n : Nat} : Hv.Gives (Itr lo n) H ((List.range n).map fun (i : Nat) => V.int (lo + (i : Int))) where
  go := fun i H' s lt => by show i < n; simpa using lt
  yld := fun i H' x H'' s y lt => ⟨y.1, by rw [y.2]; simp at lt; simp [lt]⟩
  stop := fun H' s => by show n ≤ _; simp
theorem gives_text {H : Hp} {z : Str} : Hv.Gives (Its z) H (z.cps.toList.map fun c => V.str ⟨#[c]⟩) where
  go := fun i H' s lt => by show i < z.cps.size; simpa using lt
  yld := fun i H' x H'' s y lt => by
    obtain ⟨e, c, hc, rfl⟩ := y
    refine ⟨e, ?_⟩
    rw [List.getElem?_map, show z.cps.toList[i]? = some c by simpa using hc]; rfl
  stop := fun H' s => by show z.cps.size ≤ _; simp
/-- a comprehension: of each item f's value, or it is left out -/
theorem lc_any {J : It} {items : List V} {f : V → Option V} {g : TG} {tt : TT} {te : TE} {vs : List Nat} {σ : L2.St} {H1 : Hp} {D : Addr} {Qd : Hp → Prop}
    (gives : Hv.Gives J H1 items) (new : H1 D = none) (short : items.length ≤ sizeLine)
    (turn : ∀ (x : V) (H : Hp) (Post : Bool → V → Hp → Prop), x ∈ items → Same H1 H →
      (∀ y H4, f x = some y → Same H H4 → Post true y H4) → (∀ H4, f x = none → Same H H4 → Post false .non H4) →
      g x (wipe σ vs) H fun σ2 H2 => wipe σ2 vs = wipe σ vs ∧ tt σ2 H2 fun b H3 => if b = true then te σ2 H3 fun y H4 => Post true y H4 else Post false .non H3)
    (done : ∀ H, Same H1 H → H D = some (.lst (items.filterMap f)) → Qd H) :
    ∃ W : Nat → Nat → Hp → Prop, (∃ m, W 0 m (upd H1 D (.lst []))) ∧ ∀ i m H, W i m H →
      (J.stop i H ∧ Qd H) ∨ (J.go i H ∧ ∃ Nx : Hp → Prop, (∀ H', Nx H' → ∃ m', m' < m ∧ W (i + 1) m' H') ∧ ∀ v H', J.yld i H v H' → g v (wipe σ vs) H' fun σ2 H2 => wipe σ2 vs = wipe σ vs ∧ tt σ2 H2 fun b H3 =>
        if b = true then te σ2 H3 fun y H4 => ∃ acc, H4 D = some (.lst acc) ∧ acc.length < sizeLine ∧ Nx (upd H4 D (.lst (acc ++ [y]))) else Nx H3) := by
  refine ⟨fun i m H => m = items.length - i ∧ i ≤ items.length ∧ Same H1 H ∧ H D = some (.lst ((items.take i).filterMap f)), ⟨_, rfl, Nat.zero_le _, same_new new, upd_same⟩, ?_⟩
  rintro i m H ⟨rfl, hi, sm, at_D⟩
  by_cases lt : i < items.length
  · refine .inr ⟨gives.go i H sm lt, fun H => Same H1 H ∧ H D = some (.lst ((items.take (i + 1)).filterMap f)), fun H' q => ⟨_, by omega, rfl, lt, q⟩, ?_⟩
    intro v H' y
    obtain ⟨rfl, hv⟩ := gives.yld i H v H' sm y lt
    have step : (items.take (i + 1)).filterMap f = (items.take i).filterMap f ++ (match f v with | some y => [y] | none => []) := by
      rw [List.take_add_one, hv, Option.toList_some, List.filterMap_append]
      cases e : f v <;> simp [List.filterMap, e]
    have small : ((items.take i).filterMap f).length < sizeLine := by
      refine Nat.lt_of_le_of_lt (List.length_filterMap_le _ _) (Nat.lt_of_lt_of_le ?_ short)
      rw [List.length_take]
      omega
    refine turn v H' (fun b y H4 => if b = true then ∃ acc, H4 D = some (.lst acc) ∧ acc.length < sizeLine ∧ (Same H1 (upd H4 D (.lst (acc ++ [y]))) ∧ upd H4 D (.lst (acc ++ [y])) D = some (.lst ((items.take (i + 1)).filterMap f))) else (Same H1 H4 ∧ H4 D = some (.lst ((items.take (i + 1)).filterMap f)))) (List.mem_of_getElem? hv) sm ?_ ?_
    · intro y H4 e k
      rw [if_pos rfl]
      refine ⟨_, k _ _ at_D, small, same_put (sm.trans k) new, ?_⟩
      rw [upd_same, step, e]
    · intro H4 e k
      rw [if_neg (by decide)]
      refine ⟨sm.trans k, ?_⟩
      rw [k _ _ at_D, step, e, List.append_nil]
  · have e : i = items.length := by omega
    subst e
    refine .inl ⟨gives.stop H sm, done H sm ?_⟩
    rw [at_D, List.take_of_length_le (Nat.le_refl _)]
theorem pi_or {X : Cx} {tg e : Expr} {w1 w2 : TI} (h1 : PI X tg e w1) (h2 : PI X tg e w2) : PI X tg e (fun σ H R => w1 σ H R ∨ w2 σ H R) := by
  constructor
  intro pins s σ H R I h
  exact h.elim (h1.run pins s σ H R I) (h2.run pins s σ H R I)

end Hv
end

section
/-! Lists of texts beside the empty list. -/
namespace Hv
open PySem PySem.Spec PyProof.Rows L2
def Tx (n : Nat) (z : Str) : Prop := z.cps.size ≤ n ∧ ∀ c ∈ z.cps.toList, c < 128
theorem Tx.ok {n : Nat} {z : Str} (h : Tx n z) : PyData.strOk z = true := by
  unfold PyData.strOk
  rw [← Array.all_toList, List.all_eq_true]
  intro c hc
  have := h.2 c hc
  exact decide_eq_true (by omega)
theorem Tx.up {n m : Nat} {z : Str} (h : Tx n z) (le : n ≤ m) : Tx m z := ⟨Nat.le_trans h.1 le, h.2⟩
theorem dp_strs {K : PySem.W.Frag} {H : Hp} : ∀ zs : List Str, DpAll K H (zs.map V.str) (zs.map PyData.str)
  | [] => .nil
  | z :: r => .cons (.str z) (dp_strs r)
theorem lay_strs : ∀ zs : List Str, (∀ z ∈ zs, PyData.strOk z = true) → PyData.canLayAll0 (zs.map PyData.str) = true
  | [], _ => by simp only [List.map_nil, PyData.canLayAll0]
  | z :: r, h => by
    simp only [List.map_cons, PyData.canLayAll0, PyData.canLay0, Bool.and_eq_true]
    exact ⟨h z (List.mem_cons_self ..), lay_strs r fun y hy => h y (List.mem_cons_of_mem _ hy)⟩
theorem deep_strs : ∀ zs : List Str, PyData.depthAll (zs.map PyData.str) = 0
  | [] => by simp only [List.map_nil, PyData.depthAll]
  | z :: r => by simp only [List.map_cons, PyData.depthAll, PyData.depth, deep_strs r]; rfl
theorem shaped_strs {zs : List Str} (h : ∀ z ∈ zs, PyData.strOk z = true) : SeqAt.shaped (.list (zs.map PyData.str)) = true := by
  unfold SeqAt.shaped
  rw [Bool.and_eq_true]
  refine ⟨by simp only [PyData.canLay0]; exact lay_strs zs h, decide_eq_true ?_⟩
  simp only [PyData.depth, deep_strs]
  decide
theorem shaped_nil : SeqAt.shaped (.list []) = true := shaped_strs (zs := []) (fun _ h => nomatch h)
theorem eqv_nil (zs : List Str) : PyData.eqv (.list (zs.map PyData.str)) (.list []) = zs.isEmpty := by
  cases zs with
  | nil => simp only [List.map_nil, PyData.eqv, PyData.eqvAll, List.isEmpty_nil]
  | cons z r => simp only [List.map_cons, PyData.eqv, PyData.eqvAll, List.isEmpty_cons]
/-- a list of texts == [] -/
theorem eq_nil_of {K : PySem.W.Frag} {H : Hp} {Q : VK} {p q : Addr} {zs : List Str} (hp : SqL K H p (zs.map V.str)) (hq : SqL K H q []) (ok : ∀ z ∈ zs, PyData.strOk z = true) (h : Q (.bl zs.isEmpty) H) :
    rEqD K (.ref p) (.ref q) H Q :=
  ⟨.list (zs.map PyData.str), .list [], .lst hp (dp_strs zs), .lst hq .nil, shaped_strs ok, shaped_nil, by rw [eqv_nil]; exact h⟩
theorem ne_nil_of {K : PySem.W.Frag} {H : Hp} {Q : VK} {p q : Addr} {zs : List Str} (hp : SqL K H p (zs.map V.str)) (hq : SqL K H q []) (ok : ∀ z ∈ zs, PyData.strOk z = true) (h : Q (.bl (!zs.isEmpty)) H) :
    rNeD K (.ref p) (.ref q) H Q :=
  ⟨.list (zs.map PyData.str), .list [], .lst hp (dp_strs zs), .lst hq .nil, shaped_strs ok, shaped_nil, by rw [eqv_nil]; exact h⟩
theorem hu_of' {A : Around} {k : Nat} (hr : Room k A) : A.units + 64 < cLine := by have := hr.un; omega
theorem hu_rep {A : Around} {k : Nat} (hr : Room k A) : A.units + 70 < cLine := by have := hr.un; omega
theorem small_mem (c : Nat) : decide (c ∈ (Str.ofString "abcdefghijklmnopqrstuvwxyz").cps.toList) = (decide (97 ≤ c) && decide (c ≤ 122)) := by
  have e : (Str.ofString "abcdefghijklmnopqrstuvwxyz").cps.toList = (List.range 26).map (97 + ·) := by decide +kernel
  rw [e, Bool.eq_iff_iff, decide_eq_true_iff, Bool.and_eq_true, decide_eq_true_iff, decide_eq_true_iff, List.mem_map]
  constructor
  · rintro ⟨i, hi, rfl⟩
    have := List.mem_range.mp hi
    omega
  · rintro ⟨h1, h2⟩
    exact ⟨c - 97, List.mem_range.mpr (by omega), by omega⟩
theorem op_mulS {X : Cx} : OpR X (binaryOp .Mult) (fun x y H Q => ∃ (z : Str) (n : Int), x = .str z ∧ y = .int n ∧ PySem.MulOk z n ∧ Q (.str (Txt.mul z n)) H) := by
  intro pins s σ H x y v u Q I rx ry h
  obtain ⟨z, n, rfl, rfl, ok, q⟩ := h
  obtain ⟨t, rfl⟩ := rx
  obtain ⟨t', rfl⟩ := ry
  exact PySem.SB.mul ok fun t' k => ⟨.str _, H, I.tok k, ⟨t', rfl⟩, q⟩
/-- an item of a written list of texts -/
theorem item_strs {zs : List Str} {r : Int} (h0 : 0 ≤ r) (h1 : r < (zs.length : Int)) : ∃ z ∈ zs, atI (zs.map V.str) r = some (.str z) := by
  obtain ⟨n, rfl⟩ := Int.eq_ofNat_of_zero_le h0
  have lt : n < zs.length := by omega
  refine ⟨zs[n], List.getElem_mem lt, ?_⟩
  exact atI_nat (by rw [List.getElem?_map, List.getElem?_eq_getElem lt]; rfl)
/-- what repr tells of three truths -/
theorem rep3 (a b c : Bool) : (PyData.list [.bool a, .bool b, .bool c]).showable = true ∧ (PyData.list [.bool a, .bool b, .bool c]).hasDict = false ∧
    (PyData.list [.bool a, .bool b, .bool c]).depth ≤ 60 ∧ (PyData.list [.bool a, .bool b, .bool c]).shown.length ≤ sizeLine := by
  cases a <;> cases b <;> cases c <;> exact ⟨by decide +kernel, by decide +kernel, by decide +kernel, by decide +kernel⟩
theorem item_any {xs : List V} {r : Int} (h0 : 0 ≤ r) (h1 : r < (xs.length : Int)) : ∃ v ∈ xs, atI xs r = some v := by
  obtain ⟨n, rfl⟩ := Int.eq_ofNat_of_zero_le h0
  have lt : n < xs.length := by omega
  exact ⟨xs[n], List.getElem_mem lt, atI_nat (by rw [List.getElem?_eq_getElem lt])⟩
end Hv
end

section
/-! Data of any kind, an empty dict too: its kind, its repr, its items. -/
namespace Hv
open PySem PySem.Spec PyProof.Rows L2
inductive Th (K : PySem.W.Frag) (H : Hp) : V → PyData → Prop
  | d {v : V} {d : PyData} : Dp K H v d → Th K H v d
  | emp {a : Addr} : H a = some (.dK []) → Th K H (.ref a) (.dict [])
def okI (i : Int) : Bool := decide ((PyData.shown (.int i)).length ≤ 40) && decide (i.natAbs ≤ 10 ^ 30)
def okS (z : Str) : Bool := decide (z.cps.size ≤ 900) && z.cps.toList.all fun c => decide (c < 128)
mutual
def good : PyData → Bool
  | .none | .bool _ => true
  | .int i => okI i
  | .str z => okS z
  | .list xs | .tuple xs => goodAll xs
  | .dict _ => false
def goodAll : List PyData → Bool
  | [] => true
  | x :: xs => good x && goodAll xs
end
theorem goodAll_iff : ∀ xs : List PyData, goodAll xs = true ↔ ∀ x ∈ xs, good x = true
  | [] => by simp [goodAll]
  | x :: xs => by simp [goodAll, goodAll_iff xs]
theorem okS_tx {z : Str} (h : okS z = true) : Tx 900 z := by
  unfold okS at h
  rw [Bool.and_eq_true, decide_eq_true_iff, List.all_eq_true] at h
  exact ⟨h.1, fun c hc => of_decide_eq_true (h.2 c hc)⟩
mutual
theorem good_lay : ∀ d : PyData, good d = true → d.canLay0 = true ∧ d.showable = true ∧ d.leavesShort 40 = true
  | .none, _ => ⟨by simp only [PyData.canLay0], by simp only [PyData.showable], by simp only [PyData.leavesShort]⟩
  | .bool b, _ => ⟨by simp only [PyData.canLay0], by simp only [PyData.showable], by simp only [PyData.leavesShort]⟩
  | .int i, h => by
    have h' : okI i = true := by simpa only [good] using h
    unfold okI at h'
    rw [Bool.and_eq_true, decide_eq_true_iff, decide_eq_true_iff] at h'
    refine ⟨by simp only [PyData.canLay0], ?_, by simp only [PyData.leavesShort]; exact decide_eq_true h'.1⟩
    simp only [PyData.showable]
    refine decide_eq_true ?_
    by_cases z : i.natAbs = 0
    · rw [z]; decide
    · refine Nat.lt_of_lt_of_le ((Nat.log2_lt z).mpr (Nat.lt_of_le_of_lt h'.2 (show 10 ^ 30 < 2 ^ 100 by decide))) (by decide)
  | .str z, h => by
    have t := okS_tx (show okS z = true by simpa only [good] using h)
    refine ⟨by simp only [PyData.canLay0]; exact t.ok, by simp only [PyData.showable], ?_⟩
    simp only [PyData.leavesShort]
    rw [List.all_eq_true]
    intro c hc
    have := t.2 c hc
    exact decide_eq_true (Nat.lt_trans this (by decide))
  | .list xs, h => by
    have := good_layAll xs (by simpa only [good] using h)
    simpa only [PyData.canLay0, PyData.showable, PyData.leavesShort] using this
  | .tuple xs, h => by
    have := good_layAll xs (by simpa only [good] using h)
    simpa only [PyData.canLay0, PyData.showable, PyData.leavesShort] using this
  | .dict _, h => by simp [good] at h
theorem good_layAll : ∀ xs : List PyData, goodAll xs = true → PyData.canLayAll0 xs = true ∧ PyData.showableAll xs = true ∧ PyData.leavesShortAll 40 xs = true
  | [], _ => ⟨by simp only [PyData.canLayAll0], by simp only [PyData.showableAll], by simp only [PyData.leavesShortAll]⟩
  | x :: xs, h => by
    have h' : good x = true ∧ goodAll xs = true := by simpa only [goodAll, Bool.and_eq_true] using h
    obtain ⟨a1, a2, a3⟩ := good_lay x h'.1
    obtain ⟨b1, b2, b3⟩ := good_layAll xs h'.2
    simp only [PyData.canLayAll0, PyData.showableAll, PyData.leavesShortAll, Bool.and_eq_true]
    exact ⟨⟨a1, b1⟩, ⟨a2, b2⟩, ⟨a3, b3⟩⟩
end
theorem good_sz {d : PyData} (h : good d = true) (b : d.bulk ≤ 100000) : d.shown.length ≤ sizeLine := by
  have e := PyData.shown_le_bulk 40 (by decide) d (good_lay d h).2.2
  have e2 : (40 + 2) * d.bulk ≤ 42 * 100000 := Nat.mul_le_mul_left _ b
  rw [sizeLine_eq]
  omega
theorem good_shaped {d : PyData} (h : good d = true) (b : d.depth ≤ 64) : SeqAt.shaped d = true := by
  unfold SeqAt.shaped
  rw [(good_lay d h).1, decide_eq_true b]; rfl
def tyN : PyData → String
  | .none => "NoneType"
  | .bool _ => "bool"
  | .int _ => "int"
  | .str _ => "str"
  | .list _ => "list"
  | .tuple _ => "tuple"
  | .dict _ => "dict"
theorem sq_tyL {K : PySem.W.Frag} {H : Hp} {a : Addr} {xs : List V} (h : SqL K H a xs) : TyX K H (.ref a) (.type "list") := by
  rcases h with (h | ⟨o, h⟩) | ⟨o, its, n, h, c, _⟩
  · exact .base (.lst h)
  · exact .base (.frz h)
  · exact .kList h c
theorem sq_tyT {K : PySem.W.Frag} {H : Hp} {a : Addr} {xs : List V} (h : SqT K H a xs) : TyX K H (.ref a) (.type "tuple") := by
  rcases h with (h | ⟨o, h⟩) | ⟨o, its, n, h, c, _⟩
  · exact .base (.tup h)
  · exact .fTuple h
  · exact .kTuple h c
theorem Th.ty {K : PySem.W.Frag} {H : Hp} {v : V} {d : PyData} (h : Th K H v d) : TyX K H v (.type (tyN d)) := by
  cases h with
  | d h =>
    cases h with
    | non => exact .base .non
    | bl b => exact .base (.bl b)
    | int i => exact .base (.int i)
    | str x => exact .base (.str x)
    | lst s _ => exact sq_tyL s
    | tup s _ => exact sq_tyT s
  | emp h => exact .base (.dK h)
/-- isinstance(x, T) -/
theorem isi_th {K : PySem.W.Frag} {H : Hp} {x : V} {d : PyData} {T : String} {b : Bool} {Q : VK} (h : Th K H x d) (e : kitB (tyN d) T = some b) (q : Q (.bl b) H) : rIsi K [x, .ty T] H Q :=
  ⟨x, .ty T, _, _, b, rfl, .ty _, h.ty, kit_ty e, q⟩
def dStr : PyData → Option Str
  | .str z => some z
  | _ => none
def dTup : PyData → Bool
  | .tuple _ => true
  | _ => false
def dInt : PyData → Bool
  | .int _ => true
  | _ => false
def dBl : PyData → Bool
  | .bool _ => true
  | _ => false
theorem kit_str (d : PyData) : kitB (tyN d) "str" = some ((dStr d).isSome) := by
  cases d with
  | none => exact (show kitB "NoneType" "str" = some false by decide +kernel)
  | bool _ => exact (show kitB "bool" "str" = some false by decide +kernel)
  | int _ => exact (show kitB "int" "str" = some false by decide +kernel)
  | str _ => exact (show kitB "str" "str" = some true by decide +kernel)
  | list _ => exact (show kitB "list" "str" = some false by decide +kernel)
  | tuple _ => exact (show kitB "tuple" "str" = some false by decide +kernel)
  | dict _ => exact (show kitB "dict" "str" = some false by decide +kernel)
theorem kit_tup (d : PyData) : kitB (tyN d) "tuple" = some (dTup d) := by
  cases d with
  | none => exact (show kitB "NoneType" "tuple" = some false by decide +kernel)
  | bool _ => exact (show kitB "bool" "tuple" = some false by decide +kernel)
  | int _ => exact (show kitB "int" "tuple" = some false by decide +kernel)
  | str _ => exact (show kitB "str" "tuple" = some false by decide +kernel)
  | list _ => exact (show kitB "list" "tuple" = some false by decide +kernel)
  | tuple _ => exact (show kitB "tuple" "tuple" = some true by decide +kernel)
  | dict _ => exact (show kitB "dict" "tuple" = some false by decide +kernel)
theorem kit_int (d : PyData) : kitB (tyN d) "int" = some (dInt d || dBl d) := by
  cases d with
  | none => exact (show kitB "NoneType" "int" = some false by decide +kernel)
  | bool _ => exact (show kitB "bool" "int" = some true by decide +kernel)
  | int _ => exact (show kitB "int" "int" = some true by decide +kernel)
  | str _ => exact (show kitB "str" "int" = some false by decide +kernel)
  | list _ => exact (show kitB "list" "int" = some false by decide +kernel)
  | tuple _ => exact (show kitB "tuple" "int" = some false by decide +kernel)
  | dict _ => exact (show kitB "dict" "int" = some false by decide +kernel)
theorem kit_bl (d : PyData) : kitB (tyN d) "bool" = some (dBl d) := by
  cases d with
  | none => exact (show kitB "NoneType" "bool" = some false by decide +kernel)
  | bool _ => exact (show kitB "bool" "bool" = some true by decide +kernel)
  | int _ => exact (show kitB "int" "bool" = some false by decide +kernel)
  | str _ => exact (show kitB "str" "bool" = some false by decide +kernel)
  | list _ => exact (show kitB "list" "bool" = some false by decide +kernel)
  | tuple _ => exact (show kitB "tuple" "bool" = some false by decide +kernel)
  | dict _ => exact (show kitB "dict" "bool" = some false by decide +kernel)
theorem Th.kd {K : PySem.W.Frag} {H : Hp} {v : V} {d : PyData} (h : Th K H v d) : Kd K H v (dStr d) := by
  have t := h.ty
  have k := kit_ty (K := K) (kit_str d)
  cases d with
  | str z =>
    cases h with
    | d h => cases h; exact .str z
  | _ => exact .oth t k
mutual
theorem same_dp {K : PySem.W.Frag} {H H' : Hp} (s : Same H H') : ∀ (d : PyData) (v : V), Dp K H v d → Dp K H' v d
  | .none, _, h => by cases h; exact .non
  | .bool b, _, h => by cases h; exact .bl b
  | .int i, _, h => by cases h; exact .int i
  | .str z, _, h => by cases h; exact .str z
  | .list ds, _, h => by
    cases h with
    | lst q a => exact .lst (s.seq q) (same_dpAll s ds _ a)
  | .tuple ds, _, h => by
    cases h with
    | tup q a => exact .tup (same_tup s q) (same_dpAll s ds _ a)
  | .dict _, _, h => by cases h
theorem same_dpAll {K : PySem.W.Frag} {H H' : Hp} (s : Same H H') : ∀ (ds : List PyData) (vs : List V), DpAll K H vs ds → DpAll K H' vs ds
  | [], _, h => by cases h; exact .nil
  | d :: ds, _, h => by
    cases h with
    | cons a b => exact .cons (same_dp s d _ a) (same_dpAll s ds _ b)
end
theorem same_th {K : PySem.W.Frag} {H H' : Hp} {d : PyData} {v : V} (s : Same H H') (h : Th K H v d) : Th K H' v d := by
  cases h with
  | d h => exact .d (same_dp s _ _ h)
  | emp h => exact .emp (s _ _ h)
theorem dpAll_length {K : PySem.W.Frag} {H : Hp} : ∀ {xs : List V} {ds : List PyData}, DpAll K H xs ds → xs.length = ds.length
  | _, _, .nil => rfl
  | _, _, .cons _ b => by rw [List.length_cons, List.length_cons, dpAll_length b]
theorem dpAll_get {K : PySem.W.Frag} {H : Hp} : ∀ {xs : List V} {ds : List PyData} {i : Nat} {x : V}, DpAll K H xs ds → xs[i]? = some x → ∃ d, ds[i]? = some d ∧ Dp K H x d
  | _, _, _, _, .nil, e => nomatch e
  | _, _, 0, _, .cons a _, e => by cases e; exact ⟨_, rfl, a⟩
  | _, _, i + 1, _, .cons _ b, e => dpAll_get (i := i) b e
theorem dpAll_mem {K : PySem.W.Frag} {H : Hp} {xs : List V} {ds : List PyData} {x : V} (h : DpAll K H xs ds) (e : x ∈ xs) : ∃ d ∈ ds, Dp K H x d := by
  obtain ⟨i, hi⟩ := List.getElem?_of_mem e
  obtain ⟨d, a, b⟩ := dpAll_get h hi
  exact ⟨d, List.mem_of_getElem? a, b⟩
theorem dpAll_append {K : PySem.W.Frag} {H : Hp} : ∀ {xs ys : List V} {ds es : List PyData}, DpAll K H xs ds → DpAll K H ys es → DpAll K H (xs ++ ys) (ds ++ es)
  | _, _, _, _, .nil, h => h
  | _, _, _, _, .cons a b, h => .cons a (dpAll_append b h)
theorem dpAll_drop {K : PySem.W.Frag} {H : Hp} : ∀ {xs : List V} {ds : List PyData} (n : Nat), DpAll K H xs ds → DpAll K H (xs.drop n) (ds.drop n)
  | _, _, 0, h => h
  | _, _, _ + 1, .nil => .nil
  | _, _, n + 1, .cons _ b => dpAll_drop n b
theorem dpAll_take {K : PySem.W.Frag} {H : Hp} : ∀ {xs : List V} {ds : List PyData} (n : Nat), DpAll K H xs ds → DpAll K H (xs.take n) (ds.take n)
  | _, _, 0, _ => by rw [List.take_zero, List.take_zero]; exact .nil
  | _, _, _ + 1, .nil => .nil
  | _, _, n + 1, .cons a b => .cons a (dpAll_take n b)
theorem eqv_nilD (ds : List PyData) : PyData.eqv (.list ds) (.list []) = ds.isEmpty := by
  cases ds with
  | nil => simp only [PyData.eqv, PyData.eqvAll, List.isEmpty_nil]
  | cons z r => simp only [PyData.eqv, PyData.eqvAll, List.isEmpty_cons]
theorem shaped_nil' : SeqAt.shaped (.list []) = true := good_shaped (by simp [good, goodAll]) (by simp [PyData.depth, PyData.depthAll])
theorem eq_nilD {K : PySem.W.Frag} {H : Hp} {Q : VK} {p q : Addr} {xs : List V} {ds : List PyData} (hp : SqL K H p xs) (hd : DpAll K H xs ds) (hq : SqL K H q []) (ok : good (.list ds) = true) (dep : (PyData.list ds).depth ≤ 64) (h : Q (.bl ds.isEmpty) H) :
    rEqD K (.ref p) (.ref q) H Q :=
  ⟨.list ds, .list [], .lst hp hd, .lst hq .nil, good_shaped ok dep, shaped_nil', by rw [eqv_nilD]; exact h⟩
theorem ne_nilD {K : PySem.W.Frag} {H : Hp} {Q : VK} {p q : Addr} {xs : List V} {ds : List PyData} (hp : SqL K H p xs) (hd : DpAll K H xs ds) (hq : SqL K H q []) (ok : good (.list ds) = true) (dep : (PyData.list ds).depth ≤ 64) (h : Q (.bl (!ds.isEmpty)) H) :
    rNeD K (.ref p) (.ref q) H Q :=
  ⟨.list ds, .list [], .lst hp hd, .lst hq .nil, good_shaped ok dep, shaped_nil', by rw [eqv_nilD]; exact h⟩
theorem depthAll_le : ∀ (ds : List PyData) (n : Nat), (∀ d ∈ ds, d.depth ≤ n) → PyData.depthAll ds ≤ n
  | [], n, _ => by simp only [PyData.depthAll]; omega
  | d :: ds, n, h => by
    have a := h d (List.mem_cons_self ..)
    have b := depthAll_le ds n fun e he => h e (List.mem_cons_of_mem _ he)
    simp only [PyData.depthAll]
    omega
theorem depth_mem : ∀ {ds : List PyData} {d : PyData}, d ∈ ds → d.depth ≤ PyData.depthAll ds
  | e :: ds, d, h => by
    simp only [PyData.depthAll]
    rcases List.mem_cons.mp h with rfl | h
    · omega
    · have := depth_mem h; omega
theorem bulk_mem : ∀ {ds : List PyData} {d : PyData}, d ∈ ds → d.bulk ≤ PyData.bulkAll ds
  | e :: ds, d, h => by
    simp only [PyData.bulkAll]
    rcases List.mem_cons.mp h with rfl | h
    · omega
    · have := bulk_mem h; omega
theorem bulk_len : ∀ (ds : List PyData), ds.length ≤ PyData.bulkAll ds
  | [] => by simp only [PyData.bulkAll, List.length_nil]; omega
  | d :: ds => by
    have := bulk_len ds
    simp only [PyData.bulkAll, List.length_cons]; omega
section
variable {X : Cx}
/-- repr of anything -/
theorem call_reprTh (calm : X.A.guards = some []) (hu : X.A.units + 70 < cLine) : CallR X (.builtin "repr") (fun xs H Q => ∃ (x : V) (d : PyData),
    xs = [x] ∧ Th X.K H x d ∧ (d ≠ .dict [] → good d = true) ∧ d.depth ≤ 60 ∧ d.bulk ≤ 100000 ∧ Q (.str d.shown) H) := by
  intro pins s σ H xs us Q I r h
  obtain ⟨x, d, rfl, th, gd, dep, bk, q⟩ := h
  obtain ⟨u, rfl, ru⟩ := Vals.one r
  have fin : ∀ (h' : Heap) (tk : Nat) (n : Tok), (∀ b o, s.heap.get? b = some o → h'.get? b = some o) → EP X pins σ Q (.str d.shown n) { s with heap := h', toks := tk } := by
    intro h' tk n k
    exact ⟨.str d.shown, H, I.kept (t' := tk) k, ⟨_, rfl⟩, q⟩
  cases th with
  | emp e =>
    cases (show u = Value.ref _ from ru)
    obtain ⟨_, low, vs, kv, o, es, ep, h1, h2, h3, _, h5, _⟩ := dk_of I.hok e
    cases kv
    cases hes : es.toList with
    | cons a b => rw [hes] at h5; cases h5
    | nil =>
      have rd : Reads s.heap (.ref _) (.dict []) (_ :: [] ++ []) := Reads.dict h1 h2.1 h3 (by rw [hes]; exact .nil) (by rw [hes]; exact .nil)
      refine repr_of_reads' rd (by simp [PyData.showable, PyData.showableKv]) (fun _ m => ?_) calm (by omega) (fun _ _ e => e) ?_ (by rw [show (PyData.dict []).shown = Str.ofString "{}" by decide +kernel]; decide +kernel)
      · simp at m
        rw [← m] at low
        simp at low
      · intro h' tk n k
        exact fin h' n tk k
  | d dp =>
    have g : good d = true := by
      refine gd fun e => ?_
      subst e
      cases dp
    obtain ⟨c1, c2, c3⟩ := good_lay d g
    have refs : ∀ a, u = .ref a → wpAny (model X.prog X.w) X.A (call (.builtin "repr") [u]) (EP X pins σ Q) X.xe s := by
      rintro a rfl
      obtain ⟨as, rd⟩ := Dp.reads I d _ _ dp ru
      exact repr_of_reads' rd c2 (fun z => by rw [PyData.hasDict_of_canLay d c1] at z; cases z) calm (by omega) (fun _ _ e => e) (fun h' tk n k => fin h' n tk k) (good_sz g bk)
    cases dp with
    | non => cases ru; exact PySem.P.repr_of_none (fin _ _ _ fun _ _ e => e)
    | bl b => cases ru; exact PySem.P.repr_of_bool (by have := fin s.heap (s.toks + 1) s.toks fun _ _ e => e; cases b <;> exact this)
    | int i =>
      obtain ⟨t, rfl⟩ := ru
      refine PySem.P.repr_of_int (by simpa [PyData.showable] using c2) ?_
      exact fin s.heap (s.toks + 1) s.toks fun _ _ e => e
    | str z =>
      obtain ⟨t, rfl⟩ := ru
      refine PySem.P.repr_of_str ?_ ?_
      · exact fin s.heap (s.toks + 1) s.toks fun _ _ e => e
      · have := good_sz g bk
        simpa [PyData.shown] using this
    | lst _ _ => exact refs _ ru
    | tup _ _ => exact refs _ ru
end
end Hv
end

section
/-! Walks of pairs, dicts of the text asked with None. -/
namespace Hv
open PySem PySem.Spec PyProof.Rows L2
structure GivesR {α : Type} (J : It) (H1 : Hp) (items : List α) (R : α → V → Hp → Prop) : Prop where
  go : ∀ i H, Same H1 H → i < items.length → J.go i H
  yld : ∀ i H x H', Same H1 H → J.yld i H x H' → i < items.length → Same H H' ∧ ∃ y, items[i]? = some y ∧ R y x H'
  stop : ∀ H, Same H1 H → J.stop items.length H
theorem gives_zipT {K : PySem.W.Frag} {H : Hp} {a b : Addr} {xs ys : List V} (ha : SqT K H a xs) (hb : SqT K H b ys) (hl : xs.length = ys.length) :
    Hv.GivesR (RZ.ItzT K a b) H (xs.zip ys) (fun p v H' => ∃ T, v = .ref T ∧ H' T = some (.tup [p.1, p.2])) where
  go := fun i H' s lt => by
    rw [List.length_zip, hl, Nat.min_self] at lt
    exact ⟨xs, ys, xs[i]'(by omega), ys[i], same_tup s ha, same_tup s hb, by simp [show i < xs.length by omega], by simp [lt]⟩
  yld := fun i H' x H'' s y lt => by
    obtain ⟨T, u, v, rfl, nT, rfl, e1, e2⟩ := y
    have e1' := e1 xs (same_tup s ha)
    have e2' := e2 ys (same_tup s hb)
    exact ⟨same_new nT, (u, v), List.getElem?_zip_eq_some.mpr ⟨e1', e2'⟩, T, rfl, upd_same⟩
  stop := fun H' s => ⟨xs, ys, same_tup s ha, same_tup s hb, .inl (by rw [List.length_zip]; omega)⟩
theorem gives_of {J : It} {H1 : Hp} {items : List V} (g : Hv.Gives J H1 items) : Hv.GivesR J H1 items (fun y x _ => x = y) where
  go := g.go
  yld := fun i H x H' s y lt => by
    obtain ⟨rfl, e⟩ := g.yld i H x H' s y lt
    exact ⟨Same.refl _, x, e, rfl⟩
  stop := g.stop
/-- a comprehension: of each item f's value, or it is left out -/
theorem lc_rel {α : Type} {J : It} {items : List α} {R : α → V → Hp → Prop} {f : α → Option V} {g : TG} {tt : TT} {te : TE} {vs : List Nat} {σ : L2.St} {H1 : Hp} {D : Addr} {Qd : Hp → Prop}
    (gives : Hv.GivesR J H1 items R) (new : H1 D = none) (short : items.length ≤ sizeLine)
    (turn : ∀ (y : α) (x : V) (H : Hp) (Post : Bool → V → Hp → Prop), y ∈ items → R y x H → Same H1 H →
      (∀ z H4, f y = some z → Same H H4 → Post true z H4) → (∀ H4, f y = none → Same H H4 → Post false .non H4) →
      g x (wipe σ vs) H fun σ2 H2 => wipe σ2 vs = wipe σ vs ∧ tt σ2 H2 fun b H3 => if b = true then te σ2 H3 fun y H4 => Post true y H4 else Post false .non H3)
    (done : ∀ H, Same H1 H → H D = some (.lst (items.filterMap f)) → Qd H) :
    ∃ W : Nat → Nat → Hp → Prop, (∃ m, W 0 m (upd H1 D (.lst []))) ∧ ∀ i m H, W i m H →
      (J.stop i H ∧ Qd H) ∨ (J.go i H ∧ ∃ Nx : Hp → Prop, (∀ H', Nx H' → ∃ m', m' < m ∧ W (i + 1) m' H') ∧ ∀ v H', J.yld i H v H' → g v (wipe σ vs) H' fun σ2 H2 => wipe σ2 vs = wipe σ vs ∧ tt σ2 H2 fun b H3 =>
        if b = true then te σ2 H3 fun y H4 => ∃ acc, H4 D = some (.lst acc) ∧ acc.length < sizeLine ∧ Nx (upd H4 D (.lst (acc ++ [y]))) else Nx H3) := by
  refine ⟨fun i m H => m = items.length - i ∧ i ≤ items.length ∧ Same H1 H ∧ H D = some (.lst ((items.take i).filterMap f)), ⟨_, rfl, Nat.zero_le _, same_new new, upd_same⟩, ?_⟩
  rintro i m H ⟨rfl, hi, sm, at_D⟩
  by_cases lt : i < items.length
  · refine .inr ⟨gives.go i H sm lt, fun H => Same H1 H ∧ H D = some (.lst ((items.take (i + 1)).filterMap f)), fun H' q => ⟨_, by omega, rfl, lt, q⟩, ?_⟩
    intro v H' y
    obtain ⟨s2, w, hv, hR⟩ := gives.yld i H v H' sm y lt
    have step : (items.take (i + 1)).filterMap f = (items.take i).filterMap f ++ (match f w with | some y => [y] | none => []) := by
      rw [List.take_add_one, hv, Option.toList_some, List.filterMap_append]
      cases e : f w <;> simp [List.filterMap, e]
    have small : ((items.take i).filterMap f).length < sizeLine := by
      refine Nat.lt_of_le_of_lt (List.length_filterMap_le _ _) (Nat.lt_of_lt_of_le ?_ short)
      rw [List.length_take]
      omega
    have at_D' := s2 _ _ at_D
    refine turn w v H' (fun b y H4 => if b = true then ∃ acc, H4 D = some (.lst acc) ∧ acc.length < sizeLine ∧ (Same H1 (upd H4 D (.lst (acc ++ [y]))) ∧ upd H4 D (.lst (acc ++ [y])) D = some (.lst ((items.take (i + 1)).filterMap f))) else (Same H1 H4 ∧ H4 D = some (.lst ((items.take (i + 1)).filterMap f)))) (List.mem_of_getElem? hv) hR (sm.trans s2) ?_ ?_
    · intro y H4 e k
      rw [if_pos rfl]
      refine ⟨_, k _ _ at_D', small, same_put ((sm.trans s2).trans k) new, ?_⟩
      rw [upd_same, step, e]
    · intro H4 e k
      rw [if_neg (by decide)]
      refine ⟨(sm.trans s2).trans k, ?_⟩
      rw [k _ _ at_D', step, e, List.append_nil]
  · have e : i = items.length := by omega
    subst e
    refine .inl ⟨gives.stop H sm, done H sm ?_⟩
    rw [at_D, List.take_of_length_le (Nat.le_refl _)]
/-- a dict of the text, asked with a text or None -/
structure TabK (K : PySem.W.Frag) (w : World) (d : Addr) (es : Array DictEntry) (n : Nat) : Prop where
  at_ : K.lookup d = some ⟨.type "dict", none, .dict es n, #[]⟩
  lit : PySem.W.KeysLit w.params es.toList
  low : (d == sysModules) = false
section
variable {X : Cx} {d : Addr} {es : Array DictEntry} {n : Nat}
theorem op_notIn_tab (D : TabK X.K X.w d es n) : OpR X (compareOp .NotIn) (fun x y H Q => y = .ref d ∧ ((x = .non ∧ Q (.bl true) H) ∨ ∃ z, x = .str z ∧ Q (.bl (!(findBy Value.isStrOf es z).isSome)) H)) := by
  intro pins s σ H x y v u Q I rx ry h
  obtain ⟨rfl, h⟩ := h
  cases ry
  rcases h with ⟨rfl, q⟩ | ⟨z, rfl, q⟩
  · cases rx
    have m : s.heap.MapOf (noneKind X.prog X.w) d (fun k => findBy (noneKind X.prog X.w).is es k) := ⟨_, es, n, I.kIn _ _ D.at_, ⟨rfl, rfl, rfl⟩, rfl, fun e he => by
      obtain ⟨x, t, e1, e2⟩ := D.lit.all e (Array.mem_toList_iff.mpr he)
      refine ⟨some (.inr x), ?_, e2⟩
      rw [e1]
      show (x == x) = true
      simp, fun _ => rfl⟩
    refine wpAny_notIn_of (show (noneKind X.prog X.w).is none .none = true from rfl) D.low m ?_
    have q0 : findBy (noneKind X.prog X.w).is es none = none := by
      unfold findBy
      rw [show (es.find? fun e => (noneKind X.prog X.w).is none e.key) = none from ?_]; rfl
      rw [Array.find?_eq_none]
      intro e he hq
      obtain ⟨x, t, e1, _⟩ := D.lit.all e (Array.mem_toList_iff.mpr he)
      rw [nk_none hq] at e1
      cases e1
    rw [q0]
    exact ⟨.bl true, H, I.tok _, rfl, q⟩
  · obtain ⟨t, rfl⟩ := rx
    refine wpAny_notIn_of (PySem.strKind_is X.prog X.w z t) D.low (PySem.W.mapOf_K (prog := X.prog) I.kIn D.at_ D.lit) ?_
    exact ⟨.bl _, H, I.tok _, rfl, q⟩
theorem ix_tab (D : TabK X.K X.w d es n) : IxR X (fun x y H Q => ∃ (z : Str) (u0 : Value) (v0 : V), x = .ref d ∧ y = .str z ∧ findBy Value.isStrOf es z = some u0 ∧ RelV v0 u0 ∧ Q v0 H) := by
  intro value slice pins s σ H x y v u Q I rx ry h hs
  obtain ⟨z, u0, v0, rfl, rfl, e, r, q⟩ := h
  obtain rfl : v = Value.ref d := rx
  obtain ⟨t, rfl⟩ := ry
  have hm := PySem.W.mapOf_K (prog := X.prog) (w := X.w) I.kIn D.at_ D.lit
  exact tail_any hm.typeIs slot_dict_getitem.lookup (wpAny_getItem_of (strKind_is X.prog X.w z t) hm e ⟨v0, H, I.tok _, r, q⟩) hs
end
theorem th_tup {K : PySem.W.Frag} {H : Hp} {x : V} {ds : List PyData} (h : Th K H x (.tuple ds)) : ∃ a xs, x = .ref a ∧ SqT K H a xs ∧ DpAll K H xs ds := by
  cases h with
  | d h =>
    cases h with
    | tup q a => exact ⟨_, _, rfl, q, a⟩
/-- data of a size that all can bear -/
structure Ok (d : PyData) : Prop where
  good : d ≠ .dict [] → good d = true
  deep : d.depth ≤ 50
  bulk : d.bulk ≤ 90000
theorem Ok.item {ds : List PyData} {d : PyData} (h : Ok (.tuple ds)) (m : d ∈ ds) : Ok d := by
  have a := h.good (fun e => nomatch e)
  have b := h.deep
  have c := h.bulk
  simp only [Hv.good] at a
  simp only [PyData.depth] at b
  simp only [PyData.bulk] at c
  exact ⟨fun _ => (goodAll_iff ds).mp a d m, Nat.le_trans (depth_mem m) (by omega), Nat.le_trans (bulk_mem m) c⟩
theorem Ok.len {ds : List PyData} (h : Ok (.tuple ds)) : ds.length ≤ 90000 := by
  have c := h.bulk
  simp only [PyData.bulk] at c
  exact Nat.le_trans (bulk_len ds) c
theorem Ok.tx {d : PyData} (h : Ok d) : ∀ z, dStr d = some z → Tx 900 z := by
  intro z e
  cases d with
  | str y =>
    cases e
    have a := h.good (fun e => nomatch e)
    simp only [Hv.good] at a
    exact okS_tx a
  | _ => cases e
theorem Ok.sz {d : PyData} (h : Ok d) : ∀ z, dStr d = some z → z.cps.size ≤ 1000 := fun z e => Nat.le_trans (h.tx z e).1 (by decide)
theorem newG {H H' : Hp} {p : Addr} {o : HO} (hG : upd H p o = H') (np : H p = none) : Same H H' ∧ H' p = some o := by
  subst hG
  exact ⟨same_new np, upd_same⟩
/-- a def that tells a truth of anything -/
def spD (K : PySem.W.Frag) (g : PyData → Bool) : Sp := fun vs H Q _ => ∃ (x : V) (d : PyData), vs = [x] ∧ Th K H x d ∧ Ok d ∧ ∀ H', Same H H' → Q (.bl (g d)) H'
end Hv
end

section
namespace K4
open PySem PySem.Spec PyProof.Rows L2 Hv
def top (i : Nat) : Stmt := PySem.Challenge.pw_onehistory_k04_changes_by_form.main.body.getD i (.Pass ⟨0, 0, 0, 0⟩)
abbrev s_is_name : Stmt := top 7
theorem sc_is_name : FnScope ["thing", "sign"] ["thing"] (defScope s_is_name) :=
  ⟨rfl, rfl, rfl, by decide +kernel, rfl, by decide +kernel, by decide +kernel⟩
theorem lt_one (c d : Nat) : decide (([c] : List Nat) < [d]) = decide (c < d) := by
  simp [List.cons_lt_cons_iff]
theorem ndec_lt (a b : Nat) : (!decide (a < b)) = decide (b ≤ a) := by
  by_cases h : a < b
  · rw [decide_eq_true h, decide_eq_false (by omega : ¬ b ≤ a)]; rfl
  · rw [decide_eq_false h, decide_eq_true (by omega : b ≤ a)]; rfl
theorem code_a : (Str.ofString "a").cps.toList = [97] := by decide +kernel
theorem code_z : (Str.ofString "z").cps.toList = [122] := by decide +kernel
/-- small letters -/
def letterB (c : Nat) : Bool := decide (97 ≤ c) && decide (c ≤ 122)
def nameB (z : Str) : Bool := decide (1 ≤ z.cps.size) && decide (z.cps.size ≤ 8) && z.cps.toList.all letterB
/-- a def of one thing of any kind that tells a truth of it -/
def spTell (K : PySem.W.Frag) (g : Str → Bool) (short : Nat) : Sp := fun vs H Q _ => ∃ (x : V) (o : Option Str), vs = [x] ∧ Kd K H x o ∧
  (∀ z, o = some z → z.cps.size ≤ short) ∧ ∀ H', Same H H' → Q (.bl (o.elim false g)) H'
/-- where the defs stand -/
structure Ad where
  is_name : Addr
  is_path : Addr
  is_signs : Addr
  are_steps : Addr
  is_step : Addr
structure Txt (K : PySem.W.Frag) (mg : Str → Option Value) (a : Ad) : Prop where
  b_isi : mg "isinstance" = none
  b_str : mg "str" = none
  b_len : mg "len" = none
  b_all : mg "all" = none
  c_letters : ∃ t, mg "MOST_LETTERS" = some (.int 8 t)
  c_steps : ∃ t, mg "MOST_STEPS" = some (.int 8 t)
  c_signs : ∃ t, mg "MOST_SIGNS" = some (.int 200 t)
  c_top : ∃ t, mg "TOP" = some (.str "/" t)
  c_here : ∃ t, mg "HERE" = some (.str "." t)
  c_up : ∃ t, mg "UP" = some (.str ".." t)
  g_is_name : mg "is_name" = some (.ref a.is_name)
  g_is_step : mg "_is_step" = some (.ref a.is_step)
  g_are_steps : mg "_are_steps" = some (.ref a.are_steps)
  k_is_name : PySem.W.keepIn K (.ref a.is_name) = true
  k_is_step : PySem.W.keepIn K (.ref a.is_step) = true
  k_are_steps : PySem.W.keepIn K (.ref a.are_steps) = true
section
variable {P : Program} {w : World} {K : PySem.W.Frag} {mg : Str → Option Value} {base : Heap} {a : Ad}
theorem ok_is_name {f : Addr} {fd : FuncData} (F : Fun K "is_name" "is_name" s_is_name f fd) (T : Txt K mg a) : Keeps P w K mg base CX0 1 f fd ["thing"] (spTell K nameB 1000) := by
  refine keeps0 F sc_is_name (fun vs H Q E h => ?_) (fun cdv A outer s H vs Q E hr calm h => ?_)
  · obtain ⟨x, o, rfl, _⟩ := h
    rfl
  · obtain ⟨x, o, rfl, kd, sz, k⟩ := h
    obtain ⟨tl, ml⟩ := T.c_letters
    refine ⟨_, pss_cons (ps_if (pw_or (pt_not (pt_val (pe_callB call_isi (by rfl) T.b_isi (by decide +kernel) (pa_cons (pv 0) (pa_cons (pe_bltn (v := .ty "str") (by rfl) T.b_str (by decide +kernel) rfl) pa_nil)))))
        (pw_or1 (pt_not (pt_chain op_le op_le pe_int (pe_callB call_len_str (by rfl) T.b_len PySem.boot_len (pa_cons (pv 0) pa_nil)) (pe_glob (v := .int 8) (by rfl) ml ⟨_, rfl⟩))))).pt (pss_one (ps_ret pe_bl)) pss_nil)
      (pss_one (ps_ret (pe_callB (cr_all rfl) (by rfl) T.b_all (by decide +kernel) (pa_cons
        (pe_lc (own := [("sign", 1)]) (g := gName 1) (tt := tYes) rfl sc_is_name.nd (pi_str (pv 0)) (blkOk_by (N := ["thing", "sign"]) (sc := defScope s_is_name) (by decide +kernel))
          (fun _ _ _ _ _ => pg_name (i := 1) sc_is_name.nd rfl (Or.inl rfl)) (fun _ _ _ _ _ => pts_nil) (fun _ _ _ _ _ => pe_chain op_leS op_leS pe_str (pv 1) pe_str)) pa_nil)))), ?_⟩
    cases kd with
    | oth ty no =>
      refine ⟨_, rfl, x, .ty "str", _, _, false, rfl, .ty _, ty, no, _, rfl, ?_⟩
      refine iteT (iteT ?_)
      exact k H (Same.refl H)
    | str z =>
      have hz := sz z rfl
      refine ⟨_, rfl, .str z, .ty "str", _, _, true, rfl, .ty _, .base (.str z), kit_ty (show kitB "str" "str" = some true by decide +kernel), _, rfl, ?_⟩
      refine iteF ?_
      have hs : z.length ≤ sizeLine := Nat.le_of_lt (small1000 hz)
      have bad : nameB z = false → Q (.bl false) H := fun e => by have q := k H (Same.refl H); simpa [e] using q
      refine ⟨_, rfl, z, rfl, hs, _, _, rfl, rfl, _, rfl, ?_⟩
      refine ite2 (fun h1 => ?_) (fun h1 => ?_)
      · refine ⟨_, _, rfl, rfl, _, rfl, ?_⟩
        have h1' : 1 ≤ z.cps.size := by have q := of_decide_eq_true h1; unfold Str.length at q; omega
        refine ite2 (fun h2 => ?_) (fun h2 => ?_)
        · refine bad ?_
          have h2' : ¬ z.cps.size ≤ 8 := by
            intro q; unfold Str.length at h2
            rw [decide_eq_true (by omega : (z.cps.size : Int) ≤ 8)] at h2
            cases h2
          simp [nameB, h2']
        · have h2' : z.cps.size ≤ 8 := by
            refine Classical.byContradiction fun q => h2 ?_
            unfold Str.length
            rw [decide_eq_false (by omega : ¬ (z.cps.size : Int) ≤ 8)]
            rfl
          refine ⟨_, rfl, z, rfl, fun D hD => ?_⟩
          refine lc_text (f := fun c => some (.bl (letterB c))) hD (by have := small1000 hz; exact this) (fun c H' Post sm y1 y2 => ?_) fun H' sm at_D => ?_
          · refine ⟨rfl, ?_⟩
            have e1 : (!decide (([c] : List Nat) < (Str.ofString "a").cps.toList)) = decide (97 ≤ c) := by
              rw [code_a, lt_one, ndec_lt]
            have e2 : (!decide ((Str.ofString "z").cps.toList < ([c] : List Nat))) = decide (c ≤ 122) := by
              rw [code_z, lt_one, ndec_lt]
            refine ⟨_, rfl, _, _, rfl, rfl, _, rfl, ?_⟩
            refine ite2 (fun g1 => ?_) (fun g1 => ?_)
            · refine ⟨_, _, rfl, rfl, ?_⟩
              refine y1 _ _ ?_ (Same.refl H')
              have g1' := e1.symm.trans g1
              show some (V.bl (letterB c)) = some (V.bl _)
              rw [show letterB c = (decide (97 ≤ c) && decide (c ≤ 122)) from rfl, g1', Bool.true_and, ← e2]
            · refine y1 _ _ ?_ (Same.refl H')
              have g1' : decide (97 ≤ c) = false := by
                rw [← e1]; simpa using g1
              rw [show letterB c = (decide (97 ≤ c) && decide (c ≤ 122)) from rfl, g1', Bool.false_and]
          · refine ⟨D, z.cps.toList.map letterB, rfl, ?_, ?_⟩
            · refine SqL.of ?_
              rw [at_D, List.map_map]
              congr 2
              rw [List.filterMap_eq_map']
              rfl
            · have q := k H' sm
              rw [List.all_map]
              have e : nameB z = z.cps.toList.all letterB := by simp [nameB, h1', h2']
              have e2 : (Option.some z).elim false nameB = z.cps.toList.all (id ∘ letterB) := e
              rw [e2] at q
              exact q
      · refine ⟨_, rfl, iteT ?_⟩
        refine bad ?_
        have h1' : ¬ 1 ≤ z.cps.size := by
          intro q; unfold Str.length at h1
          exact h1 (decide_eq_true (by omega : (1 : Int) ≤ (z.cps.size : Int)))
        simp [nameB, h1']
abbrev s_is_signs : Stmt := top 9
theorem sc_is_signs : FnScope ["thing", "sign"] ["thing"] (defScope s_is_signs) :=
  ⟨rfl, rfl, rfl, by decide +kernel, rfl, by decide +kernel, by decide +kernel⟩
def codeB (c : Nat) : Bool := (decide (32 ≤ c) && decide (c ≤ 126)) || decide (c = 10)
def signsB (z : Str) : Bool := decide (z.cps.size ≤ 200) && z.cps.toList.all codeB
theorem code_blank : (Str.ofString " ").cps.toList = [32] := by decide +kernel
theorem code_tilde : (Str.ofString "~").cps.toList = [126] := by decide +kernel
theorem code_feed : (Str.ofString "\n") = (⟨#[10]⟩ : Str) := by decide +kernel
theorem one_feed (c : Nat) : decide (V.str ⟨#[c]⟩ = V.str (Str.ofString "\n")) = decide (c = 10) := by
  rw [code_feed]
  refine decide_eq_decide.mpr ⟨fun h => ?_, fun h => by rw [h]⟩
  injection h with h
  injection h with h
  injection h with h
  injection h with h _
theorem ok_is_signs {f : Addr} {fd : FuncData} (F : Fun K "is_signs" "is_signs" s_is_signs f fd) (T : Txt K mg a) : Keeps P w K mg base CX0 1 f fd ["thing"] (spTell K signsB 1000) := by
  refine keeps0 F sc_is_signs (fun vs H Q E h => ?_) (fun cdv A outer s H vs Q E hr calm h => ?_)
  · obtain ⟨x, o, rfl, _⟩ := h
    rfl
  · obtain ⟨x, o, rfl, kd, sz, k⟩ := h
    obtain ⟨tl, ml⟩ := T.c_signs
    refine ⟨_, pss_cons (ps_if (pw_or (pt_not (pt_val (pe_callB call_isi (by rfl) T.b_isi (by decide +kernel) (pa_cons (pv 0) (pa_cons (pe_bltn (v := .ty "str") (by rfl) T.b_str (by decide +kernel) rfl) pa_nil)))))
        (pw_or1 (pt_cmpR op_gt (pe_callB call_len_str (by rfl) T.b_len PySem.boot_len (pa_cons (pv 0) pa_nil)) (pe_glob (v := .int 200) (by rfl) ml ⟨_, rfl⟩) (nomark _)))).pt (pss_one (ps_ret pe_bl)) pss_nil)
      (pss_one (ps_ret (pe_callB (cr_all rfl) (by rfl) T.b_all (by decide +kernel) (pa_cons
        (pe_lc (own := [("sign", 1)]) (g := gName 1) (tt := tYes) rfl sc_is_signs.nd (pi_str (pv 0)) (blkOk_by (N := ["thing", "sign"]) (sc := defScope s_is_signs) (by decide +kernel))
          (fun _ _ _ _ _ => pg_name (i := 1) sc_is_signs.nd rfl (Or.inl rfl)) (fun _ _ _ _ _ => pts_nil) (fun _ _ _ _ _ => pe_or (pe_chain op_leS op_leS pe_str (pv 1) pe_str) (pe_one (pe_cmpR op_eq (pv 1) pe_str (nomark _))))) pa_nil)))), ?_⟩
    cases kd with
    | oth ty no =>
      refine ⟨_, rfl, x, .ty "str", _, _, false, rfl, .ty _, ty, no, _, rfl, ?_⟩
      exact k H (Same.refl H)
    | str z =>
      have hz := sz z rfl
      have hs : z.length ≤ sizeLine := Nat.le_of_lt (small1000 hz)
      refine ⟨_, rfl, .str z, .ty "str", _, _, true, rfl, .ty _, .base (.str z), kit_ty (show kitB "str" "str" = some true by decide +kernel), _, rfl, ?_⟩
      refine iteF ?_
      refine ⟨_, rfl, z, rfl, hs, _, _, rfl, rfl, _, rfl, ?_⟩
      refine ite2 (fun h1 => ?_) (fun h1 => ?_)
      · have h1' : ¬ z.cps.size ≤ 200 := by have q := of_decide_eq_true h1; unfold Str.length at q; omega
        have q := k H (Same.refl H)
        rw [show (some z).elim false signsB = signsB z from rfl, show signsB z = false by simp [signsB, h1']] at q
        exact q
      · have h1' : z.cps.size ≤ 200 := by
          refine Classical.byContradiction fun q => h1 ?_
          unfold Str.length
          exact decide_eq_true (by omega : (200 : Int) < (z.cps.size : Int))
        refine ⟨_, rfl, z, rfl, fun D hD => ?_⟩
        refine lc_text (f := fun c => some (.bl (codeB c))) hD (by have := small1000 hz; exact this) (fun c H' Post sm y1 y2 => ?_) fun H' sm at_D => ?_
        · refine ⟨rfl, ?_⟩
          have e1 : (!decide (([c] : List Nat) < (Str.ofString " ").cps.toList)) = decide (32 ≤ c) := by
            rw [code_blank, lt_one, ndec_lt]
          have e2 : (!decide ((Str.ofString "~").cps.toList < ([c] : List Nat))) = decide (c ≤ 126) := by
            rw [code_tilde, lt_one, ndec_lt]
          have un : codeB c = ((decide (32 ≤ c) && decide (c ≤ 126)) || decide (c = 10)) := rfl
          have last : (decide (32 ≤ c) && decide (c ≤ 126)) = false → Post true (.bl (decide (V.str ⟨#[c]⟩ = V.str (Str.ofString "\n")))) H' := fun e => by
            refine y1 _ _ ?_ (Same.refl H')
            rw [un, e, Bool.false_or, one_feed]
          refine ⟨_, rfl, _, _, rfl, rfl, _, rfl, ?_⟩
          refine ite2 (fun g1 => ?_) (fun g1 => ?_)
          · have g1' := e1.symm.trans g1
            refine ⟨_, _, rfl, rfl, _, rfl, ?_⟩
            refine ite2 (fun g2 => ?_) (fun g2 => ?_)
            · refine y1 _ _ ?_ (Same.refl H')
              have g2' := e2.symm.trans g2
              rw [un, g1', g2']; rfl
            · refine ⟨_, rfl, rfl, last ?_⟩
              rw [← e2, g1', Bool.true_and]
              simpa using g2
          · have g1' : decide (32 ≤ c) = false := by
              rw [← e1]; simpa using g1
            refine ⟨_, rfl, ?_⟩
            refine ⟨_, rfl, rfl, last ?_⟩
            rw [g1', Bool.false_and]
        · refine ⟨D, z.cps.toList.map codeB, rfl, ?_, ?_⟩
          · refine SqL.of ?_
            rw [at_D, List.map_map]
            congr 2
            rw [List.filterMap_eq_map']
            rfl
          · have q := k H' sm
            rw [List.all_map]
            have e : signsB z = z.cps.toList.all codeB := by simp [signsB, h1']
            have e2 : (Option.some z).elim false signsB = z.cps.toList.all (id ∘ codeB) := e
            rw [e2] at q
            exact q
abbrev s_is_step : Stmt := top 11
theorem sc_is_step : FnScope ["thing"] ["thing"] (defScope s_is_step) :=
  ⟨rfl, rfl, rfl, by decide +kernel, rfl, by decide +kernel, by decide +kernel⟩
def stepB (z : Str) : Bool := decide (z = Str.ofString "..") || nameB z
theorem str_eqV (a b : Str) : decide (V.str a = V.str b) = decide (a = b) := decide_eq_decide.mpr ⟨fun h => by injection h, fun h => by rw [h]⟩
theorem ok_is_step {f : Addr} {fd fd1 : FuncData} (F : Fun K "_is_step" "_is_step" s_is_step f fd) (T : Txt K mg a) (G : Keeps P w K mg base CX0 1 a.is_name fd1 ["thing"] (spTell K nameB 1000)) (b : Binds K fd1 ["thing"] []) :
    Keeps P w K mg base CX0 2 f fd ["thing"] (spTell K stepB 1000) := by
  refine keeps0 F sc_is_step (fun vs H Q E h => ?_) (fun cdv A outer s H vs Q E hr calm h => ?_)
  · obtain ⟨x, o, rfl, _⟩ := h
    rfl
  · obtain ⟨x, o, rfl, kd, sz, k⟩ := h
    obtain ⟨tl, ml⟩ := T.c_up
    refine ⟨_, pss_one (ps_ret (pe_and (pe_callB call_isi (by rfl) T.b_isi (by decide +kernel) (pa_cons (pv 0) (pa_cons (pe_bltn (v := .ty "str") (by rfl) T.b_str (by decide +kernel) rfl) pa_nil)))
      (pe_one (pe_or (pe_cmpR op_eq (pv 0) (pe_glob (v := .str "..") (by rfl) ml ⟨_, rfl⟩) (nomark _)) (pe_one (pe_v (callR_fn G hr calm b .nil pass0) (by rfl) T.g_is_name T.k_is_name (pa_cons (pv 0) pa_nil))))))), ?_⟩
    cases kd with
    | oth ty no =>
      exact ⟨_, rfl, x, .ty "str", _, _, false, rfl, .ty _, ty, no, _, rfl, k H (Same.refl H)⟩
    | str z =>
      refine ⟨_, rfl, .str z, .ty "str", _, _, true, rfl, .ty _, .base (.str z), kit_ty (show kitB "str" "str" = some true by decide +kernel), _, rfl, ?_⟩
      refine ⟨_, rfl, rfl, _, rfl, ?_⟩
      refine ite2 (fun h1 => ?_) (fun h1 => ?_)
      · have q := k H (Same.refl H)
        rw [show (some z).elim false stepB = stepB z from rfl, show stepB z = true by rw [str_eqV] at h1; simp [stepB, h1]] at q
        exact q
      · refine ⟨_, rfl, .str z, some z, rfl, .str z, sz, fun H' sm => ?_⟩
        have q := k H' sm
        rw [show (some z).elim false stepB = stepB z from rfl, show stepB z = nameB z by rw [str_eqV] at h1; simp only [stepB, Bool.not_eq_true] at h1 ⊢; rw [h1, Bool.false_or]] at q
        exact q
/-- steps: a list of things of any kind -/
inductive Kds (K : PySem.W.Frag) (H : Hp) : List V → List (Option Str) → Prop
  | nil : Kds K H [] []
  | cons {x : V} {xs : List V} {o : Option Str} {os : List (Option Str)} : Kd K H x o → Kds K H xs os → Kds K H (x :: xs) (o :: os)
abbrev s_are_steps : Stmt := top 10
theorem sc_are_steps : FnScope ["things", "thing"] ["things"] (defScope s_are_steps) :=
  ⟨rfl, rfl, rfl, by decide +kernel, rfl, by decide +kernel, by decide +kernel⟩
def stepsB (os : List (Option Str)) : Bool := decide (os.length ≤ 8) && os.all fun o => o.elim false stepB
/-- things as a list of texts -/
def spSteps (K : PySem.W.Frag) : Sp := fun vs H Q _ => ∃ (p : Addr) (zs : List Str), vs = [.ref p] ∧ SqL K H p (zs.map V.str) ∧ zs.length ≤ 10000 ∧ (∀ z ∈ zs, z.cps.size ≤ 1000) ∧
  ∀ H', Same H H' → Q (.bl (decide (zs.length ≤ 8) && zs.all stepB)) H'
theorem ok_are_steps {f : Addr} {fd fd1 : FuncData} (F : Fun K "_are_steps" "_are_steps" s_are_steps f fd) (T : Txt K mg a) (G : Keeps P w K mg base CX0 2 a.is_step fd1 ["thing"] (spTell K stepB 1000)) (b : Binds K fd1 ["thing"] []) :
    Keeps P w K mg base CX0 3 f fd ["things"] (spSteps K) := by
  refine keeps0 F sc_are_steps (fun vs H Q E h => ?_) (fun cdv A outer s H vs Q E hr calm h => ?_)
  · obtain ⟨p, zs, rfl, _⟩ := h
    rfl
  · obtain ⟨p, zs, rfl, sq, few, sz, k⟩ := h
    obtain ⟨tl, ml⟩ := T.c_steps
    refine ⟨_, pss_one (ps_ret (pe_and (pe_cmpR op_le (pe_callB call_len_seq (by rfl) T.b_len PySem.boot_len (pa_cons (pv 0) pa_nil)) (pe_glob (v := .int 8) (by rfl) ml ⟨_, rfl⟩) (nomark _))
      (pe_one (pe_callB (cr_all rfl) (by rfl) T.b_all (by decide +kernel) (pa_cons
        (pe_lc (own := [("thing", 1)]) (g := gName 1) (tt := tYes) rfl sc_are_steps.nd (pi_list (pv 0)) (blkOk_by (N := ["things", "thing"]) (sc := defScope s_are_steps) (by decide +kernel))
          (fun _ _ _ _ _ => pg_name (i := 1) sc_are_steps.nd rfl (Or.inl rfl)) (fun _ _ _ _ _ => pts_nil)
          (fun _ _ _ _ _ => pe_v (callR_fn G hr calm b .nil pass0) (by rfl) T.g_is_step T.k_is_step (pa_cons (pv 1) pa_nil))) pa_nil))))), ?_⟩
    refine ⟨_, rfl, p, _, rfl, .inl sq, _, _, rfl, rfl, _, rfl, ?_⟩
    have el : (zs.map V.str).length = zs.length := List.length_map ..
    refine ite2 (fun h1 => ?_) (fun h1 => ?_)
    · have h1' : zs.length ≤ 8 := by have q := of_decide_eq_true h1; rw [el] at q; omega
      refine ⟨_, rfl, p, rfl, ⟨_, sq⟩, fun D hD => ?_⟩
      refine lc_any (f := fun x => match x with | .str z => some (.bl (stepB z)) | _ => none) (gives_list sq) hD (by rw [el]; exact Nat.le_trans few (by decide)) (fun x H' Post mem sm y1 y2 => ?_) fun H' sm at_D => ?_
      · obtain ⟨z, hz, rfl⟩ := List.mem_map.mp mem
        refine ⟨rfl, ?_⟩
        exact ⟨_, rfl, .str z, some z, rfl, .str z, (fun z' e => by cases e; exact sz z hz), fun H4 k4 => y1 _ _ rfl k4⟩
      · refine ⟨D, zs.map stepB, rfl, ?_, ?_⟩
        · refine SqL.of ?_
          rw [at_D, List.filterMap_map, List.map_map]
          congr 2
          rw [show ((fun x => match x with | V.str z => some (V.bl (stepB z)) | x => none) ∘ V.str : Str → Option V) = fun z => some (V.bl (stepB z)) from rfl, List.filterMap_eq_map']
          rfl
        · have q := k H' sm
          rw [List.all_map]
          rw [decide_eq_true h1', Bool.true_and] at q
          exact q
    · have h1' : ¬ zs.length ≤ 8 := by
        intro q
        refine h1 (decide_eq_true ?_)
        rw [el]; omega
      have q := k H (Same.refl H)
      rw [decide_eq_false h1', Bool.false_and] at q
      exact q
abbrev s_is_path : Stmt := top 8
theorem sc_is_path : FnScope ["thing"] ["thing"] (defScope s_is_path) :=
  ⟨rfl, rfl, rfl, by decide +kernel, rfl, by decide +kernel, by decide +kernel⟩
/-- the steps' texts of a path that isn't the top or here -/
def cuts (z : Str) : List Str := Txt.split (unslash z) (Str.ofString "/")
def pathB (z : Str) : Bool := decide (z = Str.ofString "/") || decide (z = Str.ofString ".") || (decide ((cuts z).length ≤ 8) && (cuts z).all stepB)
theorem ok_is_path {f : Addr} {fd fd1 : FuncData} (F : Fun K "is_path" "is_path" s_is_path f fd) (T : Txt K mg a) (G : Keeps P w K mg base CX0 3 a.are_steps fd1 ["things"] (spSteps K)) (b : Binds K fd1 ["things"] []) :
    Keeps P w K mg base CX0 4 f fd ["thing"] (spTell K pathB 1000) := by
  refine keeps0 F sc_is_path (fun vs H Q E h => ?_) (fun cdv A outer s H vs Q E hr calm h => ?_)
  · obtain ⟨x, o, rfl, _⟩ := h
    rfl
  · obtain ⟨x, o, rfl, kd, sz, k⟩ := h
    obtain ⟨tt, mt⟩ := T.c_top
    obtain ⟨th, mh⟩ := T.c_here
    refine ⟨_, pss_cons (ps_if (pt_not (pt_val (pe_callB call_isi (by rfl) T.b_isi (by decide +kernel) (pa_cons (pv 0) (pa_cons (pe_bltn (v := .ty "str") (by rfl) T.b_str (by decide +kernel) rfl) pa_nil))))) (pss_one (ps_ret pe_bl)) pss_nil)
      (pss_cons (ps_if (pw_or (pt_cmpR op_eq (pv 0) (pe_glob (v := .str "/") (by rfl) mt ⟨_, rfl⟩) (nomark _)) (pw_or1 (pt_cmpR op_eq (pv 0) (pe_glob (v := .str ".") (by rfl) mh ⟨_, rfl⟩) (nomark _)))).pt (pss_one (ps_ret pe_bl)) pss_nil)
      (pss_one (ps_ret (pe_v (callR_fn G hr calm b .nil pass0) (by rfl) T.g_are_steps T.k_are_steps (pa_cons
        (pe_split (pe_bm PySem.F.plainAttrs_str PySem.F.slot_str_removeprefix PySem.F.type_str_removeprefix mt_removeprefix (pv 0) (pa_cons (pe_glob (v := .str "/") (by rfl) mt ⟨_, rfl⟩) pa_nil)) pe_str) pa_nil))))), ?_⟩
    cases kd with
    | oth ty no =>
      exact ⟨_, rfl, x, .ty "str", _, _, false, rfl, .ty _, ty, no, _, rfl, k H (Same.refl H)⟩
    | str z =>
      have hz := sz z rfl
      have hs : z.length ≤ sizeLine := Nat.le_of_lt (small1000 hz)
      refine ⟨_, rfl, .str z, .ty "str", _, _, true, rfl, .ty _, .base (.str z), kit_ty (show kitB "str" "str" = some true by decide +kernel), _, rfl, ?_⟩
      refine iteF ?_
      refine ⟨_, rfl, rfl, _, rfl, ?_⟩
      have un : (some z).elim false pathB = (decide (z = Str.ofString "/") || decide (z = Str.ofString ".") || (decide ((cuts z).length ≤ 8) && (cuts z).all stepB)) := rfl
      rw [un] at k
      have go : decide (V.str z = V.str (Str.ofString "/")) = true ∨ decide (V.str z = V.str (Str.ofString ".")) = true → Q (.bl true) H := fun e => by
        have q := k H (Same.refl H)
        rw [str_eqV, str_eqV] at e
        rcases e with e | e
        · rw [e, Bool.true_or, Bool.true_or] at q; exact q
        · rw [e, Bool.or_true, Bool.true_or] at q; exact q
      refine ite2 (fun h1 => ?_) (fun h1 => ?_)
      · exact go (.inl h1)
      · refine ⟨_, rfl, rfl, _, rfl, ?_⟩
        refine ite2 (fun h2 => ?_) (fun h2 => ?_)
        · exact go (.inr h2)
        · rw [str_eqV] at h1 h2
          refine ⟨_, rfl, rfl, z, _, rfl, rfl, hs, ⟨_, rfl⟩, _, _, rfl, rfl, (by decide +kernel), ?_, ?_⟩
          · rw [prefix_slash]
            have e1 := unslash_short z
            have e2 : z.length ≤ 1000 := hz
            refine Nat.le_trans (Nat.add_le_add_right (Nat.le_trans e1 e2) 2) (by decide)
          · intro p hp
            have e1 := unslash_short z
            have e2 : z.length ≤ 1000 := hz
            have e3 := PyProof.Rows.split_le (unslash z) (Str.ofString "/")
            rw [prefix_slash]
            refine ⟨p, cuts z, rfl, SqL.of upd_same, (show (Txt.split (unslash z) (Str.ofString "/")).length ≤ 10000 by omega), fun y hy => ?_, fun H' sm => ?_⟩
            · have e4 := split_short (unslash z) (Str.ofString "/") y hy
              exact Nat.le_trans (Nat.le_trans e4 e1) e2
            · have q := k H' ((same_new hp).trans sm)
              rw [Bool.not_eq_true] at h1 h2
              rw [h1, h2, Bool.false_or, Bool.false_or] at q
              exact q
end
end K4
end

section
open PySem PySem.Spec PyProof.Rows L2 Hv
local macro_rules | `(tactic| walk_at "rd") => `(tactic| repeat (first
  | refine ⟨_, rfl, ?_⟩
  | refine ⟨_, _, rfl, rfl, ?_⟩
  | refine ⟨_, _, rfl, ?_⟩
  | refine And.intro (show (0 : Int) < _ by omega) ?_
  | refine And.intro (show CDiv _ _ from ⟨by omega, by omega⟩) ?_
  | refine And.intro (show CMul _ _ from Or.inl ⟨by omega, by omega⟩) ?_
  | refine And.intro (show CMul _ _ from Or.inr ⟨by omega, by omega⟩) ?_
  | refine And.intro (show CPow _ _ from ⟨by decide, by decide, by decide⟩) ?_))
namespace K4
abbrev s_begun : Stmt := top 31
theorem sc_begun : FnScope ["_law_script", "_law_k", "_law_cell", "_law_number", "_law_mixed"] ["_law_script", "_law_k"] (defScope s_begun) :=
  ⟨rfl, rfl, rfl, by decide +kernel, rfl, by decide +kernel, by decide +kernel⟩
abbrev s_take : Stmt := top 32
theorem sc_take : FnScope ["_law_state", "_law_many", "_law_digit", "_law_made", "_law_turn"] ["_law_state", "_law_many"] (defScope s_take) :=
  ⟨rfl, rfl, rfl, by decide +kernel, rfl, by decide +kernel, by decide +kernel⟩
/-- the built-in names that the draws ask -/
structure TxtB (mg : Str → Option Value) : Prop where
  b_max : mg "max" = none
  b_int : mg "int" = none
  b_range : mg "range" = none
/-- a draw's state: a whole number, one below 2^31, a truth -/
def Pool (H : Hp) (p : Addr) : Prop := ∃ (a b : Int) (c : Bool), H p = some (.lst [.int a, .int b, .bl c]) ∧ 0 ≤ a ∧ 0 ≤ b ∧ b < 2147483647
/-- all but what stands at p is as it was -/
def But (p : Addr) (H H' : Hp) : Prop := ∀ b o, b ≠ p → H b = some o → H' b = some o
def spBegun (K : PySem.W.Frag) : Sp := fun vs H Q _ => ∃ (a : Addr) (ns : List Int) (k : Int), vs = [.ref a, .int k] ∧ SqL K H a (ns.map V.int) ∧ ns.length ≤ 63 ∧ 0 ≤ k ∧ k < 64 ∧
  ∀ p H', H p = none → Same H H' → Pool H' p → Q (.ref p) H'
def spTake : Sp := fun vs H Q _ => ∃ (p : Addr) (m : Int), vs = [.ref p, .int m] ∧ Pool H p ∧ 0 < m ∧ m < 1073741824 ∧
  ∀ (r : Int) H', 0 ≤ r → r < m → But p H H' → Pool H' p → Q (.int r) H'
section
variable {P : Program} {w : World} {K : PySem.W.Frag} {mg : Str → Option Value} {base : Heap}
theorem ok_begun {f : Addr} {fd : FuncData} (F : Fun K "_law_begun" "_law_begun" s_begun f fd) (T : TxtB mg) : Keeps P w K mg base CX0 1 f fd ["_law_script", "_law_k"] (spBegun K) := by
  refine keeps0 F sc_begun (fun vs H Q E h => ?_) (fun cdv A outer s H vs Q E hr calm h => ?_)
  · obtain ⟨a, ns, k, rfl, _⟩ := h
    rfl
  · obtain ⟨a, ns, k, rfl, sq, few, k0, k1, out⟩ := h
    refine ⟨_, pss_cons (ps_set (i := 2) sc_begun.nd rfl (Or.inl rfl) (pe_ix ix_list (pe_op op_cat (pe_slice sl_list (pv 0) (po_some (pv 1)) (po_some (pe_op op_add (pv 1) pe_int))) (pe_lst (pa_cons pe_int pa_nil))) pe_int (fun _ _ => rfl)))
      (pss_cons (ps_set (i := 3) sc_begun.nd rfl (Or.inl rfl) (pe_callB (call_max2 rfl) (by rfl) T.b_max (by decide +kernel) (pa_cons (pv 2) (pa_cons (pe_op op_sub (pe_un un_neg pe_int) (pv 2)) pa_nil))))
      (pss_cons (ps_set (i := 4) sc_begun.nd rfl (Or.inl rfl) (pe_op op_mod (pe_op op_add (pe_op op_add (pe_op op_add (pe_op op_mod (pv 3) pe_int) (pe_op op_mul pe_int (pv 1))) (pe_op op_mul (pe_op op_mul pe_int (pv 1)) (pv 1))) pe_int) pe_int))
      (pss_one (ps_ret (pe_lst (pa_cons (pv 3) (pa_cons (pv 4) (pa_cons (pe_cmpR op_ge (pv 3) (pe_op op_pow pe_int pe_int) (nomark _)) pa_nil)))))))), ?_⟩
    obtain ⟨ms, hms⟩ : ∃ ms : List Int, cutV (ns.map V.int) (some k) (some (k + 1)) = ms.map V.int := by
      unfold cutV
      rw [← List.map_drop, ← List.map_take]
      exact ⟨_, rfl⟩
    have fewm : ms.length ≤ 63 := by
      have e := cutV_length (ns.map V.int) (some k) (some (k + 1))
      rw [hms, List.length_map, List.length_map] at e
      omega
    obtain ⟨c, hc⟩ : ∃ c : Int, atI (ms.map V.int ++ [V.int 0]) 0 = some (.int c) := by
      cases ms with
      | nil => exact ⟨0, rfl⟩
      | cons m r => exact ⟨m, atI_nat (by rfl)⟩
    refine ⟨_, rfl, _, rfl, k, rfl, _, rfl, _, _, rfl, rfl, k + 1, rfl, a, _, rfl, sq, fun p1 n1 => ⟨(by show 1 ≤ sizeLine; decide), fun p2 n2 => ?_⟩⟩
    have d12 : p1 ≠ p2 := fun e => by rw [← e, upd_same] at n2; cases n2
    refine ⟨p1, p2, _, _, rfl, rfl, (by rw [upd_ne d12]; exact upd_same), upd_same, ?_, fun p3 n3 => ?_⟩
    · rw [hms, List.length_map]
      show ms.length + 1 ≤ sizeLine
      exact Nat.le_trans (Nat.add_le_add_right fewm 1) (by decide)
    refine ⟨p3, _, 0, _, rfl, rfl, SqL.of upd_same, (by rw [hms]; exact hc), ?_⟩
    walk_at "rd"
    refine ⟨(by show 3 ≤ sizeLine; decide), fun p4 n4 => ?_⟩
    have s1 : Same H (upd H p1 (HO.lst (cutV (ns.map V.int) (some k) (some (k + 1))))) := same_new n1
    have s2 := s1.trans (same_new (o := HO.lst [V.int 0]) n2)
    have s3 := s2.trans (same_new (o := HO.lst (cutV (ns.map V.int) (some k) (some (k + 1)) ++ [V.int 0])) n3)
    refine out p4 _ (s3.free n4) (s3.trans (same_new n4)) ⟨_, _, _, upd_same, ?_, Int.emod_nonneg _ (by decide), Int.lt_trans (Int.emod_lt_of_pos _ (by decide)) (by decide)⟩
    show 0 ≤ (if -1 - c > c then -1 - c else c)
    split <;> omega
theorem ok_take {f : Addr} {fd : FuncData} (F : Fun K "_law_take" "_law_take" s_take f fd) (T : TxtB mg) : Keeps P w K mg base CX0 1 f fd ["_law_state", "_law_many"] spTake := by
  refine keeps0 F sc_take (fun vs H Q E h => ?_) (fun cdv A outer s H vs Q E hr calm h => ?_)
  · obtain ⟨a, m, rfl, _⟩ := h
    rfl
  · obtain ⟨p, m, rfl, ⟨a, b, c, hp, a0, b0, b1⟩, m0, m1, out⟩ := h
    refine ⟨_, pss_cons (ps_if (pt_val (pe_ix ix_list (pv 0) pe_int (fun _ _ => rfl)))
        (pss_cons (ps_set (i := 2) sc_take.nd rfl (Or.inl rfl) (pe_op op_mod (pe_ix ix_list (pv 0) pe_int (fun _ _ => rfl)) (pv 1)))
        (pss_cons (ps_asg (pe_op op_fdiv (pe_ix ix_list (pv 0) pe_int (fun _ _ => rfl)) (pv 1)) (pg_sub (pv 0) pe_int set_list))
        (pss_cons (ps_asg (pe_cmpR op_gt (pe_ix ix_list (pv 0) pe_int (fun _ _ => rfl)) pe_int (nomark _)) (pg_sub (pv 0) pe_int set_list))
        (pss_one (ps_ret (pv 2)))))) pss_nil)
      (pss_cons (ps_set (i := 3) sc_take.nd rfl (Or.inl rfl) pe_int)
      (pss_cons (ps_for PassesOwn.never rfl (pi_range1 (by rfl) T.b_range (pa_cons (pe_op op_add pe_int (pe_callTy call_int1 (by rfl) T.b_int (by decide +kernel) (pa_cons (pe_cmpR op_gt (pv 1) (pe_op op_pow pe_int pe_int) (nomark _)) pa_nil))) pa_nil)) (pg_name (i := 4) sc_take.nd rfl (Or.inl rfl))
        (pss_cons (ps_asg (pe_op op_mod (pe_op op_add (pe_op op_mul (pe_ix ix_list (pv 0) pe_int (fun _ _ => rfl)) pe_int) pe_int) pe_int) (pg_sub (pv 0) pe_int set_list))
        (pss_one (ps_set (i := 3) sc_take.nd rfl (Or.inl rfl) (pe_op op_add (pe_op op_mul (pv 3) pe_int) (pe_op op_mod (pe_op op_mul (pe_ix ix_list (pv 0) pe_int (fun _ _ => rfl)) (pe_ix ix_list (pv 0) pe_int (fun _ _ => rfl))) pe_int))))))
      (pss_one (ps_ret (pe_op op_mod (pe_op op_fdiv (pv 3) pe_int) (pv 1)))))), ?_⟩
    refine ⟨_, rfl, p, _, 2, _, rfl, rfl, SqL.of hp, atI_nat (by rfl), _, rfl, ?_⟩
    cases c with
    | true =>
      refine iteT ?_
      refine ⟨_, rfl, p, _, 0, _, rfl, rfl, SqL.of hp, atI_nat (by rfl), ?_⟩
      walk_at "rd"
      refine ⟨p, _, 0, _, rfl, rfl, SqL.of hp, atI_nat (by rfl), ?_⟩
      walk_at "rd"
      refine ⟨p, _, 0, 0, rfl, rfl, hp, rfl, ?_⟩
      refine ⟨_, rfl, p, _, 0, _, rfl, rfl, SqL.of upd_same, atI_nat (by rfl), ?_⟩
      walk_at "rd"
      refine ⟨p, _, 2, 2, rfl, rfl, upd_same, rfl, ?_⟩
      refine ⟨_, rfl, out (a % m) _ (Int.emod_nonneg _ (by omega)) (Int.emod_lt_of_pos _ m0) (fun b o nb e => by rw [upd_ne nb, upd_ne nb]; exact e) ⟨a / m, b, _, upd_same, Int.ediv_nonneg a0 (by omega), b0, b1⟩⟩
    | false =>
      refine iteF ?_
      walk_at "rd"
      refine Or.inr ⟨_, rfl, ?_⟩
      walk_at "rd"
      refine ⟨(by show -(2 ^ 62) ≤ 1 + (if _ then (1 : Int) else 0); split <;> omega), (by show 1 + (if _ then (1 : Int) else 0) < 2 ^ 62; split <;> omega), ?_⟩
      refine for_range (fun i σ H' => ∃ (made : Int) (v : Option V), σ = [some (.ref p), some (.int m), none, some (.int made), v] ∧ But p H H' ∧ Pool H' p ∧ 0 ≤ made)
        ⟨0, none, rfl, fun b o _ e => e, ⟨a, b, false, hp, a0, b0, b1⟩, Int.le_refl 0⟩ ?_ ?_
      · rintro i σ H' hi ⟨made, v, rfl, but, ⟨a', b', c', hp', a0', b0', b1'⟩, made0⟩
        refine ⟨_, rfl, p, _, 1, _, rfl, rfl, SqL.of hp', atI_nat (by rfl), ?_⟩
        walk_at "rd"
        refine ⟨p, _, 1, 1, rfl, rfl, hp', rfl, ?_⟩
        walk_at "rd"
        refine ⟨p, _, 1, _, rfl, rfl, SqL.of upd_same, atI_nat (by rfl), ?_⟩
        walk_at "rd"
        refine ⟨p, _, 1, _, rfl, rfl, SqL.of upd_same, atI_nat (by rfl), ?_⟩
        walk_at "rd"
        refine ⟨fun b o nb e => by rw [upd_ne nb]; exact but b o nb e, ⟨a', _, c', upd_same, a0', Int.emod_nonneg _ (by decide), Int.emod_lt_of_pos _ (by decide)⟩, by omega⟩
      · rintro σ H' ⟨made, v, rfl, but, pool, made0⟩
        walk_at "rd"
        exact out (made / 64 % m) H' (Int.emod_nonneg _ (by omega)) (Int.emod_lt_of_pos _ m0) but pool
end
end K4
end

section
open PySem PySem.Spec PyProof.Rows L2 Hv
local macro_rules | `(tactic| walk_at "rd") => `(tactic| repeat (first
  | refine ⟨_, rfl, ?_⟩
  | refine ⟨_, _, rfl, rfl, ?_⟩
  | refine ⟨_, _, rfl, ?_⟩
  | refine And.intro (show (0 : Int) < _ by omega) ?_
  | refine And.intro (show CDiv _ _ from ⟨by omega, by omega⟩) ?_
  | refine And.intro (show CMul _ _ from Or.inl ⟨by omega, by omega⟩) ?_
  | refine And.intro (show CMul _ _ from Or.inr ⟨by omega, by omega⟩) ?_
  | refine And.intro (show CPow _ _ from ⟨by decide, by decide, by decide⟩) ?_))
namespace K4
/-- a thing of any kind, of which a truth is told; its text, if it is one, is short and plain -/
def spTellT (K : PySem.W.Frag) (g : Str → Bool) : Sp := fun vs H Q _ => ∃ (x : V) (o : Option Str), vs = [x] ∧ Kd K H x o ∧
  (∀ z, o = some z → Tx 1000 z) ∧ ∀ H', Same H H' → Q (.bl (o.elim false g)) H'
abbrev s_lis_name : Stmt := top 33
theorem sc_lis_name : FnScope ["_law_thing", "_law_sign"] ["_law_thing"] (defScope s_lis_name) :=
  ⟨rfl, rfl, rfl, by decide +kernel, rfl, by decide +kernel, by decide +kernel⟩
section
variable {P : Program} {w : World} {K : PySem.W.Frag} {mg : Str → Option Value} {base : Heap} {a : Ad}
theorem ok_lis_name {f : Addr} {fd : FuncData} (F : Fun K "_law_is_name" "_law_is_name" s_lis_name f fd) (T : Txt K mg a) : Keeps P w K mg base CX0 1 f fd ["_law_thing"] (spTellT K nameB) := by
  refine keeps0 F sc_lis_name (fun vs H Q E h => ?_) (fun cdv A outer s H vs Q E hr calm h => ?_)
  · obtain ⟨x, o, rfl, _⟩ := h
    rfl
  · obtain ⟨x, o, rfl, kd, sz, k⟩ := h
    refine ⟨_, pss_cons (ps_if (pw_or (pt_not (pt_val (pe_callB call_isi (by rfl) T.b_isi (by decide +kernel) (pa_cons (pv 0) (pa_cons (pe_bltn (v := .ty "str") (by rfl) T.b_str (by decide +kernel) rfl) pa_nil)))))
        (pw_or1 (pt_not (pt_chain op_le op_le pe_int (pe_callB call_len_str (by rfl) T.b_len PySem.boot_len (pa_cons (pv 0) pa_nil)) pe_int)))).pt (pss_one (ps_ret pe_bl)) pss_nil)
      (pss_one (ps_ret (pe_cmpR (op_eqD (hu_of' hr)) (pe_lc (own := [("_law_sign", 1)]) (g := gName 1) rfl sc_lis_name.nd (pi_str (pv 0)) (blkOk_by (N := ["_law_thing", "_law_sign"]) (sc := defScope s_lis_name) (by decide +kernel))
          (fun _ _ _ _ _ => pg_name (i := 1) sc_lis_name.nd rfl (Or.inl rfl)) (fun _ _ _ _ _ => pts_one (pt_cmpR op_notin_str (pv 1) pe_str (by with_unfolding_all rfl))) (fun _ _ _ _ _ => pv 1)) (pe_lst pa_nil) (nomark _)))), ?_⟩
    cases kd with
    | oth ty no =>
      exact ⟨_, rfl, x, .ty "str", _, _, false, rfl, .ty _, ty, no, _, rfl, k H (Same.refl H)⟩
    | str z =>
      have hz := (sz z rfl).1
      have hs : z.length ≤ sizeLine := Nat.le_of_lt (small1000 hz)
      have q0 := fun H' sm => k H' sm
      rw [show (some z).elim false nameB = nameB z from rfl] at q0
      have bad : nameB z = false → Q (.bl false) H := fun e => by have q := q0 H (Same.refl H); rw [e] at q; exact q
      refine ⟨_, rfl, .str z, .ty "str", _, _, true, rfl, .ty _, .base (.str z), kit_ty (show kitB "str" "str" = some true by decide +kernel), _, rfl, ?_⟩
      refine iteF ?_
      refine ⟨_, rfl, z, rfl, hs, _, _, rfl, rfl, _, rfl, ?_⟩
      refine ite2 (fun h1 => ?_) (fun h1 => ?_)
      · refine ⟨_, _, rfl, rfl, _, rfl, ?_⟩
        have h1' : 1 ≤ z.cps.size := by have q := of_decide_eq_true h1; unfold Str.length at q; omega
        refine ite2 (fun h2 => ?_) (fun h2 => ?_)
        · refine bad ?_
          have h2' : ¬ z.cps.size ≤ 8 := by
            intro q; unfold Str.length at h2
            rw [decide_eq_true (by omega : (z.cps.size : Int) ≤ 8)] at h2
            cases h2
          simp [nameB, h2']
        · have h2' : z.cps.size ≤ 8 := by
            refine Classical.byContradiction fun q => h2 ?_
            unfold Str.length
            rw [decide_eq_false (by omega : ¬ (z.cps.size : Int) ≤ 8)]
            rfl
          refine ⟨_, rfl, z, rfl, fun D hD => ?_⟩
          refine lc_text (f := fun c => if letterB c = true then none else some (.str ⟨#[c]⟩)) hD (by have := small1000 hz; exact this) (fun c H' Post sm y1 y2 => ?_) fun H' sm at_D => ?_
          · refine ⟨rfl, ?_⟩
            have e : (!(!(Builtin.Str.occurrences (Str.ofString "abcdefghijklmnopqrstuvwxyz") ⟨#[c]⟩ 0 (Str.ofString "abcdefghijklmnopqrstuvwxyz").length 1).isEmpty)) = !letterB c := by
              rw [StrLaws.found_one, small_mem]; rfl
            refine ⟨_, rfl, _, _, rfl, rfl, _, rfl, ?_⟩
            rw [e]
            cases hl : letterB c with
            | true => exact iteF (y2 H' (by rw [if_pos hl]) (Same.refl H'))
            | false => exact iteT ⟨_, rfl, y1 _ H' (by rw [hl]; rfl) (Same.refl H')⟩
          · have e1 : z.cps.toList.filterMap (fun c => if letterB c = true then none else some (V.str ⟨#[c]⟩)) = (((z.cps.toList.filter fun c => !letterB c).map fun c => (⟨#[c]⟩ : Str)).map V.str) := by
              rw [List.map_map]
              induction z.cps.toList with
              | nil => rfl
              | cons c r ih => cases hl : letterB c <;> simp [hl, ih]
            refine ⟨(by show 0 ≤ sizeLine; decide), fun p np => ?_⟩
            rw [e1] at at_D
            refine eq_nil_of (zs := (z.cps.toList.filter fun c => !letterB c).map fun c => (⟨#[c]⟩ : Str)) (SqL.of (by rw [upd_ne (ne_of_none at_D np)]; exact at_D)) (SqL.of upd_same) (fun y hy => ?_) ?_
            · obtain ⟨c, hc, rfl⟩ := List.mem_map.mp hy
              have := (sz z rfl).2 c (List.mem_filter.mp hc).1
              simp [PyData.strOk]; omega
            · have q := q0 _ (sm.trans (same_new (o := .lst []) np))
              have e2 : nameB z = ((z.cps.toList.filter fun c => !letterB c).map fun c => (⟨#[c]⟩ : Str)).isEmpty := by
                rw [show nameB z = z.cps.toList.all letterB by simp [nameB, h1', h2'], Bool.eq_iff_iff, List.all_eq_true]
                simp
              rw [e2] at q
              exact q
      · refine ⟨_, rfl, iteT ?_⟩
        refine bad ?_
        have h1' : ¬ 1 ≤ z.cps.size := by
          intro q; unfold Str.length at h1
          exact h1 (decide_eq_true (by omega : (1 : Int) ≤ (z.cps.size : Int)))
        simp [nameB, h1']
abbrev s_lsteps : Stmt := top 34
theorem sc_lsteps : FnScope ["_law_thing", "_law_steps_here", "_law_step"] ["_law_thing"] (defScope s_lsteps) :=
  ⟨rfl, rfl, rfl, by decide +kernel, rfl, by decide +kernel, by decide +kernel⟩
/-- None just where it is no path -/
def spLSteps (K : PySem.W.Frag) : Sp := fun vs H Q _ => ∃ (x : V) (o : Option Str), vs = [x] ∧ Kd K H x o ∧
  (∀ z, o = some z → Tx 990 z) ∧ ∀ v H', Same H H' → decide (v = .non) = !(o.elim false pathB) → Q v H'
theorem ok_lsteps {f a1 : Addr} {fd fd1 : FuncData} (F : Fun K "_law_steps" "_law_steps" s_lsteps f fd) (T : Txt K mg a) (TB : TxtB mg) (b_tuple : mg "tuple" = none) (g1 : mg "_law_is_name" = some (.ref a1)) (k1 : PySem.W.keepIn K (.ref a1) = true)
    (G : Keeps P w K mg base CX0 1 a1 fd1 ["_law_thing"] (spTellT K nameB)) (b : Binds K fd1 ["_law_thing"] []) : Keeps P w K mg base CX0 2 f fd ["_law_thing"] (spLSteps K) := by
  refine keeps0 F sc_lsteps (fun vs H Q E h => ?_) (fun cdv A outer s H vs Q E hr calm h => ?_)
  · obtain ⟨x, o, rfl, _⟩ := h
    rfl
  · obtain ⟨x, o, rfl, kd, sz, k⟩ := h
    refine ⟨_, pss_cons (ps_if (pt_not (pt_val (pe_callB call_isi (by rfl) T.b_isi (by decide +kernel) (pa_cons (pv 0) (pa_cons (pe_bltn (v := .ty "str") (by rfl) T.b_str (by decide +kernel) rfl) pa_nil))))) (pss_one (ps_ret pe_non)) pss_nil)
      (pss_cons (ps_if (pt_cmpR op_in_seq (pv 0) (pe_lst (pa_cons pe_str (pa_cons pe_str pa_nil))) (by with_unfolding_all rfl)) (pss_one (ps_ret (pe_tup pa_nil))) pss_nil)
      (pss_cons (ps_set (i := 1) sc_lsteps.nd rfl (Or.inl rfl) (pe_split (pe_slice sl_str (pv 0) (po_some (pe_callTy call_int1 (by rfl) TB.b_int (by decide +kernel) (pa_cons (pe_cmpR op_eq (pe_slice sl_str (pv 0) po_none (po_some pe_int)) pe_str (nomark _)) pa_nil))) po_none) pe_str))
      (pss_cons (ps_if (pw_or (pt_cmpR op_gt (pe_callB call_len_seq (by rfl) T.b_len PySem.boot_len (pa_cons (pv 1) pa_nil)) pe_int (nomark _))
        (pw_or1 (pt_cmpR (op_neD (hu_of' hr)) (pe_lc (own := [("_law_step", 2)]) (g := gName 2) rfl sc_lsteps.nd (pi_list (pv 1)) (blkOk_by (N := ["_law_thing", "_law_steps_here", "_law_step"]) (sc := defScope s_lsteps) (by decide +kernel))
          (fun _ _ _ _ _ => pg_name (i := 2) sc_lsteps.nd rfl (Or.inl rfl)) (fun _ _ _ _ _ => pts_one (pw_and (pt_cmpR op_ne (pv 2) pe_str (nomark _)) (pw_and1 (pt_not (pt_val (pe_v (callR_fn G hr calm b .nil pass0) (by rfl) g1 k1 (pa_cons (pv 2) pa_nil)))))).pt) (fun _ _ _ _ _ => pv 2)) (pe_lst pa_nil) (nomark _)))).pt (pss_one (ps_ret pe_non)) pss_nil)
      (pss_one (ps_ret (pe_callTy call_tuple_of (by rfl) b_tuple (by decide +kernel) (pa_cons (pv 1) pa_nil))))))), ?_⟩
    cases kd with
    | oth ty no =>
      exact ⟨_, rfl, x, .ty "str", _, _, false, rfl, .ty _, ty, no, _, rfl, k _ H (Same.refl H) rfl⟩
    | str z =>
      have hz := (sz z rfl).1
      refine ⟨_, rfl, .str z, .ty "str", _, _, true, rfl, .ty _, .base (.str z), kit_ty (show kitB "str" "str" = some true by decide +kernel), _, rfl, ?_⟩
      refine iteF ?_
      refine ⟨_, rfl, (by show 2 ≤ sizeLine; decide), fun p np => ⟨p, _, rfl, .inl (SqL.of upd_same), rfl, rfl, _, rfl, ?_⟩⟩
      have hs : z.length ≤ sizeLine := Nat.le_of_lt (small1000 (Nat.le_trans hz (by decide)))
      have e0 : inV (V.str z) [V.str (Str.ofString "/"), V.str (Str.ofString ".")] = (decide (z = Str.ofString "/") || decide (z = Str.ofString ".")) := by
        show (decide (Str.ofString "/" = z) || (decide (Str.ofString "." = z) || false)) = _
        rw [Bool.or_false]
        congr 1 <;> exact decide_eq_decide.mpr eq_comm
      have un : (some z).elim false pathB = ((decide (z = Str.ofString "/") || decide (z = Str.ofString ".")) || (decide ((cuts z).length ≤ 8) && (cuts z).all stepB)) := rfl
      rw [un] at k
      have sm1 : Same H (upd H p (.lst [V.str (Str.ofString "/"), V.str (Str.ofString ".")])) := same_new np
      show (if inV (V.str z) [V.str (Str.ofString "/"), V.str (Str.ofString ".")] = true then _ else _)
      rw [e0]
      refine ite2 (fun h1 => ?_) (fun h1 => ?_)
      · refine ⟨(by show 0 ≤ sizeLine; decide), fun p2 np2 => ?_⟩
        refine k _ _ (sm1.trans (same_new np2)) ?_
        rw [h1, Bool.true_or]; rfl
      · rw [Bool.not_eq_true] at h1
        rw [h1, Bool.false_or] at k
        refine ⟨_, rfl, _, rfl, 1, rfl, z, rfl, hs, rfl, Or.inr ⟨_, rfl, _, rfl, z, rfl, hs, ⟨_, rfl⟩, _, _, rfl, rfl, (by decide +kernel), ?_, ?_⟩⟩
        all_goals rw [str_eqV, first_slash, cut_slash]
        · have e1 := unslash_short z
          have e2 : z.length ≤ 990 := hz
          exact Nat.le_trans (Nat.add_le_add_right (Nat.le_trans e1 e2) 2) (by decide)
        · intro p1 np1
          have e1 := unslash_short z
          have e2 : z.length ≤ 990 := hz
          have e3 : (cuts z).length ≤ (unslash z).length + 2 := PyProof.Rows.split_le (unslash z) (Str.ofString "/")
          have sm2 := sm1.trans (same_new (o := .lst ((cuts z).map V.str)) np1)
          have at1 : upd (upd H p (.lst [V.str (Str.ofString "/"), V.str (Str.ofString ".")])) p1 (.lst ((cuts z).map V.str)) p1 = some (.lst ((cuts z).map V.str)) := upd_same
          have el : ((cuts z).map V.str).length = (cuts z).length := List.length_map ..
          have tx : ∀ y ∈ cuts z, Tx 1000 y := fun y hy => ⟨Nat.le_trans (Nat.le_trans (split_short _ _ y hy) e1) (Nat.le_trans e2 (by decide)),
            fun c hc => (sz z rfl).2 c (unslash_codes z c (split_codes _ _ y hy c hc))⟩
          refine ⟨_, rfl, p1, _, rfl, .inl (SqL.of upd_same), _, _, rfl, rfl, _, rfl, ?_⟩
          show (if decide ((8 : Int) < (((cuts z).map V.str).length : Int)) = true then _ else _)
          rw [el]
          refine ite2 (fun h2 => ?_) (fun h2 => ?_)
          · refine k _ _ sm2 ?_
            rw [decide_eq_false (show ¬ (cuts z).length ≤ 8 by have := of_decide_eq_true h2; omega), Bool.false_and]; rfl
          · have h2' : (cuts z).length ≤ 8 := by
              refine Classical.byContradiction fun q => h2 (decide_eq_true (by omega))
            rw [decide_eq_true h2', Bool.true_and] at k
            refine ⟨_, rfl, p1, rfl, ⟨_, SqL.of at1⟩, fun D hD => ?_⟩
            refine lc_any (f := fun x => match x with | .str y => if stepB y = true then none else some (.str y) | _ => none) (gives_list (SqL.of at1)) hD (by rw [el]; exact Nat.le_trans h2' (by decide)) (fun x H' Post mem sm y1 y2 => ?_) fun H' sm at_D => ?_
            · obtain ⟨y, hy, rfl⟩ := List.mem_map.mp mem
              refine ⟨rfl, ?_⟩
              refine ⟨_, rfl, rfl, _, rfl, ?_⟩
              rw [str_eqV]
              cases hup : decide (y = Str.ofString "..") with
              | true =>
                have st : stepB y = true := by unfold stepB; rw [hup, Bool.true_or]
                exact y2 H' (by show (if stepB y = true then none else _) = none; rw [if_pos st]) (Same.refl H')
              | false =>
                have st : stepB y = nameB y := by unfold stepB; rw [hup, Bool.false_or]
                refine ⟨_, rfl, .str y, some y, rfl, .str y, (fun z' e => by cases e; exact tx y hy), fun H4 k4 => ⟨_, rfl, ?_⟩⟩
                show (if (!nameB y) = true then _ else _)
                cases hn : nameB y with
                | true => exact iteF (y2 H4 (by show (if stepB y = true then none else _) = none; rw [st, hn]; rfl) k4)
                | false => exact iteT ⟨_, rfl, y1 _ H4 (by show (if stepB y = true then none else _) = _; rw [st, hn]; rfl) k4⟩
            · have e4 : ((cuts z).map V.str).filterMap (fun x => match x with | .str y => if stepB y = true then none else some (.str y) | _ => none) = ((cuts z).filter fun y => !stepB y).map V.str := by
                rw [List.filterMap_map]
                induction cuts z with
                | nil => rfl
                | cons c r ih => cases hl : stepB c <;> simp [hl] <;> exact ih
              rw [e4] at at_D
              refine ⟨(by show 0 ≤ sizeLine; decide), fun p3 np3 => ?_⟩
              refine ne_nil_of (zs := (cuts z).filter fun y => !stepB y) (SqL.of (by rw [upd_ne (ne_of_none at_D np3)]; exact at_D)) (SqL.of upd_same) (fun y hy => (tx y (List.mem_filter.mp hy).1).ok) ?_
              refine ⟨_, rfl, ?_⟩
              have sm3 := (sm2.trans sm).trans (same_new (o := .lst []) np3)
              have e5 : (((cuts z).filter fun y => !stepB y).isEmpty) = (cuts z).all stepB := by
                rw [Bool.eq_iff_iff, List.all_eq_true]
                simp
              rw [e5]
              cases hall : (cuts z).all stepB with
              | true =>
                rw [hall] at k
                have at3 : upd H' p3 (.lst []) p1 = some (.lst ((cuts z).map V.str)) := by
                  rw [upd_ne (ne_of_none (sm _ _ at1) np3)]; exact sm _ _ at1
                exact iteF ⟨_, rfl, p1, _, rfl, .inl ⟨SqL.of at3, fun l nl => k _ _ (sm3.trans (same_new nl)) rfl⟩⟩
              | false =>
                rw [hall] at k
                exact iteT (k _ _ sm3 rfl)
end
end K4
end

section
open PySem PySem.Spec PyProof.Rows L2 Hv
namespace K4
/-! ### what the program's defs tell -/
def countB : PyData → Bool
  | .int i => decide (0 ≤ i)
  | _ => false
def markB : PyData → Bool
  | .int i => decide (0 ≤ i) && decide (i ≤ 999)
  | _ => false
def dNm (g : Str → Bool) (d : PyData) : Bool := (dStr d).elim false g
def wordB : PyData → Option Str
  | .tuple (.str z :: _) => some z
  | _ => none
def sLink : Str := Str.ofString "link"
def sFolder : Str := Str.ofString "folder"
def sFile : Str := Str.ofString "file"
def oneP : List PyData → Bool
  | [p] => dNm pathB p
  | _ => false
def whatB : PyData → Bool
  | .tuple (.str z :: r) => if z = sLink then oneP r else (decide (z = sFolder) || decide (z = sFile)) && r.isEmpty
  | _ => false
def partB (s : Str) (d : PyData) : Bool :=
  if s = Str.ofString "name" then dNm nameB d else if s = Str.ofString "signs" then dNm signsB d else if s = Str.ofString "mark" then markB d else if s = Str.ofString "what" then whatB d else countB d
def formOf (z : Str) : Option (List Str) :=
  if z = Str.ofString "make" then some ["number", "name", "number", "what"]
  else if z = Str.ofString "write" then some ["number", "number", "signs"]
  else if z = Str.ofString "cut" then some ["number", "number"]
  else if z = Str.ofString "name" then some ["number", "name", "number"]
  else if z = Str.ofString "strike" then some ["number", "name"]
  else if z = Str.ofString "move" then some ["number", "name", "number", "name"]
  else if z = Str.ofString "exchange" then some ["number", "name", "number", "name"]
  else if z = Str.ofString "mark" then some ["number", "mark"] else none
def singleB : PyData → Bool
  | .tuple (.str z :: ps) => match formOf z with
    | some ss => decide (ps.length = ss.length) && ((ss.zip ps).map fun p => partB p.1 p.2).all id
    | none => false
  | _ => false
def allB : PyData → Bool
  | .tuple [.str z, .tuple cs] => decide (z = Str.ofString "all") && (decide (1 ≤ cs.length) && decide (cs.length ≤ 200)) && (cs.map singleB).all id
  | _ => false
def changeB (d : PyData) : Bool := singleB d || allB d
def cutB : PyData → Bool
  | .tuple [.str z, .int i] => decide (z = Str.ofString "cut back") && decide (0 ≤ i)
  | _ => false
def entryB (d : PyData) : Bool := changeB d || cutB d
abbrev s_is_whole : Stmt := top 13
abbrev s_is_count : Stmt := top 14
abbrev s_is_change : Stmt := top 19
abbrev s_is_mark : Stmt := top 20
abbrev s_is_what : Stmt := top 21
abbrev s_word : Stmt := top 22
abbrev s_is_single : Stmt := top 23
abbrev s_is_part : Stmt := top 24
abbrev s_is_all : Stmt := top 25
abbrev s_is_entry : Stmt := top 28
abbrev s_is_cut : Stmt := top 29
structure Bd where
  is_whole : Addr
  is_count : Addr
  is_change : Addr
  is_mark : Addr
  is_what : Addr
  word : Addr
  is_single : Addr
  is_part : Addr
  is_all : Addr
  is_entry : Addr
  is_cut : Addr
  is_path : Addr
  is_signs : Addr
  forms : Addr
structure TxtD (K : PySem.W.Frag) (mg : Str → Option Value) (a : Ad) (b : Bd) : Prop where
  b_int : mg "int" = none
  b_bool : mg "bool" = none
  b_tuple : mg "tuple" = none
  b_zip : mg "zip" = none
  c_mark : ∃ t, mg "MOST_MARK" = some (.int 999 t)
  c_changes : ∃ t, mg "MOST_CHANGES" = some (.int 200 t)
  c_cut : ∃ t, mg "CUT_BACK" = some (.str "cut back" t)
  c_forms : mg "FORMS" = some (.ref b.forms)
  g_is_whole : mg "is_whole" = some (.ref b.is_whole)
  g_is_count : mg "is_count" = some (.ref b.is_count)
  g_is_change : mg "is_change" = some (.ref b.is_change)
  g_is_mark : mg "is_mark" = some (.ref b.is_mark)
  g_is_what : mg "is_what" = some (.ref b.is_what)
  g_word : mg "_word" = some (.ref b.word)
  g_is_single : mg "_is_single" = some (.ref b.is_single)
  g_is_part : mg "_is_part" = some (.ref b.is_part)
  g_is_all : mg "_is_all" = some (.ref b.is_all)
  g_is_entry : mg "is_entry" = some (.ref b.is_entry)
  g_is_cut : mg "_is_cut_back" = some (.ref b.is_cut)
  g_is_path : mg "is_path" = some (.ref b.is_path)
  g_is_signs : mg "is_signs" = some (.ref b.is_signs)
  k_is_whole : PySem.W.keepIn K (.ref b.is_whole) = true
  k_is_count : PySem.W.keepIn K (.ref b.is_count) = true
  k_is_change : PySem.W.keepIn K (.ref b.is_change) = true
  k_is_mark : PySem.W.keepIn K (.ref b.is_mark) = true
  k_is_what : PySem.W.keepIn K (.ref b.is_what) = true
  k_word : PySem.W.keepIn K (.ref b.word) = true
  k_is_single : PySem.W.keepIn K (.ref b.is_single) = true
  k_is_part : PySem.W.keepIn K (.ref b.is_part) = true
  k_is_all : PySem.W.keepIn K (.ref b.is_all) = true
  k_is_entry : PySem.W.keepIn K (.ref b.is_entry) = true
  k_is_cut : PySem.W.keepIn K (.ref b.is_cut) = true
  k_is_path : PySem.W.keepIn K (.ref b.is_path) = true
  k_is_signs : PySem.W.keepIn K (.ref b.is_signs) = true
/-- the dict of forms as it stands in the text -/
structure Forms (K : PySem.W.Frag) (w : World) (F : Addr) (es : Array DictEntry) (n : Nat) : Prop where
  tab : TabK K w F es n
  no : ∀ z, formOf z = none → findBy Value.isStrOf es z = none
  yes : ∀ z ss, formOf z = some ss → ∃ t, findBy Value.isStrOf es z = some (.ref t) ∧ ∀ H, SqT K H t (ss.map V.str)
section
variable {P : Program} {w : World} {K : PySem.W.Frag} {mg : Str → Option Value} {base : Heap} {a : Ad} {b : Bd}
theorem sc_is_whole : FnScope ["thing"] ["thing"] (defScope s_is_whole) :=
  ⟨rfl, rfl, rfl, by decide +kernel, rfl, by decide +kernel, by decide +kernel⟩
theorem ok_is_whole {f : Addr} {fd : FuncData} (F : Fun K "is_whole" "is_whole" s_is_whole f fd) (T : Txt K mg a) (D : TxtD K mg a b) : Keeps P w K mg base CX0 1 f fd ["thing"] (spD K dInt) := by
  refine keeps0 F sc_is_whole (fun vs H Q E h => ?_) (fun cdv A outer s H vs Q E hr calm h => ?_)
  · obtain ⟨x, d, rfl, _⟩ := h
    rfl
  · obtain ⟨x, d, rfl, th, ok, k⟩ := h
    refine ⟨_, pss_one (ps_ret (pe_and (pe_callB call_isi (by rfl) T.b_isi (by decide +kernel) (pa_cons (pv 0) (pa_cons (pe_bltn (v := .ty "int") (by rfl) D.b_int (by decide +kernel) rfl) pa_nil)))
      (pe_one (pe_not (pe_callB call_isi (by rfl) T.b_isi (by decide +kernel) (pa_cons (pv 0) (pa_cons (pe_bltn (v := .ty "bool") (by rfl) D.b_bool (by decide +kernel) rfl) pa_nil))))))), ?_⟩
    refine ⟨_, rfl, x, .ty "int", _, _, _, rfl, .ty _, th.ty, kit_ty (kit_int d), _, rfl, ?_⟩
    have q := k H (Same.refl H)
    cases d with
    | int i => exact ⟨_, rfl, x, .ty "bool", _, _, _, rfl, .ty _, th.ty, kit_ty (kit_bl _), _, rfl, q⟩
    | bool i => exact ⟨_, rfl, x, .ty "bool", _, _, _, rfl, .ty _, th.ty, kit_ty (kit_bl _), _, rfl, q⟩
    | _ => exact q
theorem sc_is_count : FnScope ["thing"] ["thing"] (defScope s_is_count) :=
  ⟨rfl, rfl, rfl, by decide +kernel, rfl, by decide +kernel, by decide +kernel⟩
theorem beq_dec (a b : Str) : (a == b) = decide (b = a) := by
  rw [Bool.eq_iff_iff, beq_iff_eq, decide_eq_true_iff]
  exact eq_comm
theorem th_int {H : Hp} {x : V} {i : Int} (h : Th K H x (.int i)) : x = .int i := by
  cases h with
  | d h => cases h; rfl
theorem th_str {H : Hp} {x : V} {z : Str} (h : Th K H x (.str z)) : x = .str z := by
  cases h with
  | d h => cases h; rfl
theorem ok_is_count {f : Addr} {fd f1 : FuncData} (F : Fun K "is_count" "is_count" s_is_count f fd) (D : TxtD K mg a b)
    (G : Keeps P w K mg base CX0 1 b.is_whole f1 ["thing"] (spD K dInt)) (g : Binds K f1 ["thing"] []) : Keeps P w K mg base CX0 2 f fd ["thing"] (spD K countB) := by
  refine keeps0 F sc_is_count (fun vs H Q E h => ?_) (fun cdv A outer s H vs Q E hr calm h => ?_)
  · obtain ⟨x, d, rfl, _⟩ := h
    rfl
  · obtain ⟨x, d, rfl, th, ok, k⟩ := h
    refine ⟨_, pss_one (ps_ret (pe_and (pe_v (callR_fn G hr calm g .nil pass0) (by rfl) D.g_is_whole D.k_is_whole (pa_cons (pv 0) pa_nil))
      (pe_one (pe_cmpR op_ge (pv 0) pe_int (nomark _))))), ?_⟩
    refine ⟨_, rfl, x, d, rfl, th, ok, fun H' sm => ⟨_, rfl, ?_⟩⟩
    have q := k H' sm
    cases d with
    | int i =>
      rw [th_int th]
      refine ⟨_, rfl, _, _, rfl, rfl, ?_⟩
      have e : (!decide (i < 0)) = decide (0 ≤ i) := by
        by_cases h : i < 0
        · rw [decide_eq_true h, decide_eq_false (by omega : ¬ 0 ≤ i)]; rfl
        · rw [decide_eq_false h, decide_eq_true (by omega : 0 ≤ i)]; rfl
      first | exact q | (rw [e]; exact q)
    | _ => exact q
theorem sc_is_mark : FnScope ["thing"] ["thing"] (defScope s_is_mark) :=
  ⟨rfl, rfl, rfl, by decide +kernel, rfl, by decide +kernel, by decide +kernel⟩
theorem ok_is_mark {f : Addr} {fd f1 : FuncData} (F : Fun K "is_mark" "is_mark" s_is_mark f fd) (D : TxtD K mg a b)
    (G : Keeps P w K mg base CX0 2 b.is_count f1 ["thing"] (spD K countB)) (g : Binds K f1 ["thing"] []) : Keeps P w K mg base CX0 3 f fd ["thing"] (spD K markB) := by
  refine keeps0 F sc_is_mark (fun vs H Q E h => ?_) (fun cdv A outer s H vs Q E hr calm h => ?_)
  · obtain ⟨x, d, rfl, _⟩ := h
    rfl
  · obtain ⟨x, d, rfl, th, ok, k⟩ := h
    obtain ⟨tm, mm⟩ := D.c_mark
    refine ⟨_, pss_one (ps_ret (pe_and (pe_v (callR_fn G hr calm g .nil pass0) (by rfl) D.g_is_count D.k_is_count (pa_cons (pv 0) pa_nil))
      (pe_one (pe_cmpR op_le (pv 0) (pe_glob (v := .int 999) (by rfl) mm ⟨_, rfl⟩) (nomark _))))), ?_⟩
    refine ⟨_, rfl, x, d, rfl, th, ok, fun H' sm => ⟨_, rfl, ?_⟩⟩
    have q := k H' sm
    cases d with
    | int i =>
      rw [th_int th]
      refine ite2 (fun h1 => ?_) (fun h1 => ?_)
      · have h1' : decide (0 ≤ i) = true := h1
        refine ⟨_, rfl, _, _, rfl, rfl, ?_⟩
        rw [show markB (.int i) = (decide (0 ≤ i) && decide (i ≤ 999)) from rfl, h1', Bool.true_and] at q
        exact q
      · have h1' : decide (0 ≤ i) = false := by simpa [countB] using h1
        rw [show markB (.int i) = (decide (0 ≤ i) && decide (i ≤ 999)) from rfl, h1', Bool.false_and] at q
        exact q
    | _ => exact q
theorem sc_word : FnScope ["thing"] ["thing"] (defScope s_word) :=
  ⟨rfl, rfl, rfl, by decide +kernel, rfl, by decide +kernel, by decide +kernel⟩
def wV (o : Option Str) : V := o.elim .non V.str
def spWord (K : PySem.W.Frag) : Sp := fun vs H Q _ => ∃ (x : V) (d : PyData), vs = [x] ∧ Th K H x d ∧ Q (wV (wordB d)) H
theorem ok_word {f : Addr} {fd : FuncData} (F : Fun K "_word" "_word" s_word f fd) (T : Txt K mg a) (D : TxtD K mg a b) : Keeps P w K mg base CX0 1 f fd ["thing"] (spWord K) := by
  refine keeps0 F sc_word (fun vs H Q E h => ?_) (fun cdv A outer s H vs Q E hr calm h => ?_)
  · obtain ⟨x, d, rfl, _⟩ := h
    rfl
  · obtain ⟨x, d, rfl, th, k⟩ := h
    refine ⟨_, pss_cons (ps_if (pw_and (pt_val (pe_callB call_isi (by rfl) T.b_isi (by decide +kernel) (pa_cons (pv 0) (pa_cons (pe_bltn (v := .ty "tuple") (by rfl) D.b_tuple (by decide +kernel) rfl) pa_nil))))
        (pw_and (pt_truth (pv 0) (fun _ => rfl)) (pw_and1 (pt_val (pe_callB call_isi (by rfl) T.b_isi (by decide +kernel) (pa_cons (pe_ix ix_tup (pv 0) pe_int (fun _ _ => rfl)) (pa_cons (pe_bltn (v := .ty "str") (by rfl) T.b_str (by decide +kernel) rfl) pa_nil))))))).pt
        (pss_one (ps_ret (pe_ix ix_tup (pv 0) pe_int (fun _ _ => rfl)))) pss_nil) (pss_one (ps_ret pe_non)), ?_⟩
    refine ⟨_, rfl, x, .ty "tuple", _, _, _, rfl, .ty _, th.ty, kit_ty (kit_tup d), _, rfl, ?_⟩
    cases d with
    | tuple ds =>
      obtain ⟨p, xs, rfl, sq, al⟩ := th_tup th
      refine iteT ⟨_, rfl, !xs.isEmpty, .inr (.inl ⟨xs, sq, rfl⟩), ?_⟩
      cases al with
      | nil => exact k
      | @cons v vs e es a1 a2 =>
        refine iteT ⟨_, rfl, p, _, 0, v, rfl, rfl, sq, atI_nat (by rfl), v, .ty "str", _, _, _, rfl, .ty _, (Th.d a1).ty, kit_ty (kit_str e), _, rfl, ?_⟩
        cases e with
        | str z =>
          refine iteT ?_
          cases a1
          exact ⟨_, rfl, p, _, 0, .str z, rfl, rfl, sq, atI_nat (by rfl), k⟩
        | _ => exact k
    | _ => exact k
end
end K4
end

section
open PySem PySem.Spec PyProof.Rows L2 Hv
namespace K4
theorem word_shape {d : PyData} {z : Str} (h : wordB d = some z) : ∃ r, d = .tuple (.str z :: r) := by
  cases d with
  | tuple ds =>
    cases ds with
    | nil => cases h
    | cons e r =>
      cases e with
      | str y => cases h; exact ⟨r, rfl⟩
      | _ => cases h
  | _ => cases h
theorem word_none {d : PyData} (h : wordB d = none) : whatB d = false ∧ singleB d = false ∧ allB d = false := by
  cases d with
  | tuple ds =>
    cases ds with
    | nil => exact ⟨rfl, rfl, rfl⟩
    | cons e r =>
      cases e with
      | str y => cases h
      | _ => exact ⟨rfl, rfl, rfl⟩
  | _ => exact ⟨rfl, rfl, rfl⟩
theorem scal_w (o : Option Str) (y : Str) : scal (wV o) (.str y) = true := by cases o <;> rfl
theorem w_eq (o : Option Str) (y : Str) : decide (wV o = V.str y) = decide (o = some y) := by
  cases o with
  | none => exact decide_eq_decide.mpr ⟨fun h => (nomatch h), fun h => (nomatch h)⟩
  | some z => exact decide_eq_decide.mpr ⟨fun h => by have h : V.str z = V.str y := h; injection h with h; rw [h], fun h => by cases h; rfl⟩
theorem len_eq (n m : Nat) : decide (V.int (n : Int) = V.int (m : Int)) = decide (n = m) := decide_eq_decide.mpr ⟨fun h => by injection h with h; omega, fun h => by rw [h]⟩
theorem what_link (r : List PyData) : whatB (.tuple (.str (Str.ofString "link") :: r)) = oneP r := by
  simp only [whatB]
  rw [if_pos (show Str.ofString "link" = sLink from rfl)]
section
variable {P : Program} {w : World} {K : PySem.W.Frag} {mg : Str → Option Value} {base : Heap} {a : Ad} {b : Bd}
theorem sc_is_what : FnScope ["thing", "word"] ["thing"] (defScope s_is_what) :=
  ⟨rfl, rfl, rfl, by decide +kernel, rfl, by decide +kernel, by decide +kernel⟩
theorem ok_is_what {f : Addr} {fd f1 f2 : FuncData} (F : Fun K "is_what" "is_what" s_is_what f fd) (T : Txt K mg a) (D : TxtD K mg a b)
    (G : Keeps P w K mg base CX0 1 b.word f1 ["thing"] (spWord K)) (g : Binds K f1 ["thing"] [])
    (G2 : Keeps P w K mg base CX0 4 b.is_path f2 ["thing"] (spTell K pathB 1000)) (g2 : Binds K f2 ["thing"] []) :
    Keeps P w K mg base CX0 5 f fd ["thing"] (spD K whatB) := by
  refine keeps0 F sc_is_what (fun vs H Q E h => ?_) (fun cdv A outer s H vs Q E hr calm h => ?_)
  · obtain ⟨x, d, rfl, _⟩ := h
    rfl
  · obtain ⟨x, d, rfl, th, ok, k⟩ := h
    refine ⟨_, pss_cons (ps_set (i := 1) sc_is_what.nd rfl (Or.inl rfl) (pe_v (callR_fn G (hr.mono (by decide)) calm g .nil pass0) (by rfl) D.g_word D.k_word (pa_cons (pv 0) pa_nil)))
      (pss_cons (ps_if (pt_cmpR op_eq (pv 1) pe_str (nomark _)) (pss_one (ps_ret (pe_and (pe_cmpR op_eq (pe_callB call_len_seq (by rfl) T.b_len PySem.boot_len (pa_cons (pv 0) pa_nil)) pe_int (nomark _))
          (pe_one (pe_v (callR_fn G2 hr calm g2 .nil pass0) (by rfl) D.g_is_path D.k_is_path (pa_cons (pe_ix ix_tup (pv 0) pe_int (fun _ _ => rfl)) pa_nil)))))) pss_nil)
      (pss_one (ps_ret (pe_and (pe_cmpR op_in_seq (pv 1) (pe_tup (pa_cons pe_str (pa_cons pe_str pa_nil))) (by with_unfolding_all rfl))
        (pe_one (pe_cmpR op_eq (pe_callB call_len_seq (by rfl) T.b_len PySem.boot_len (pa_cons (pv 0) pa_nil)) pe_int (nomark _))))))), ?_⟩
    refine ⟨_, rfl, x, d, rfl, th, ?_⟩
    refine ⟨_, rfl, scal_w _ _, _, rfl, ?_⟩
    rw [w_eq]
    refine ite2 (fun h1 => ?_) (fun h1 => ?_)
    · obtain ⟨r, rfl⟩ := word_shape (of_decide_eq_true h1)
      obtain ⟨p, xs, rfl, sq, al⟩ := th_tup th
      refine ⟨_, rfl, p, xs, rfl, .inr sq, rfl, _, rfl, ?_⟩
      rw [what_link r] at k
      have q := k H (Same.refl H)
      cases al with
      | @cons v vs e es a1 a2 =>
        cases a2 with
        | nil => exact q
        | @cons v2 vs2 e2 es2 a3 a4 =>
          cases a4 with
          | nil =>
            refine iteT ⟨_, rfl, p, _, 1, v2, rfl, rfl, sq, atI_nat (by rfl), v2, dStr e2, rfl, (Th.d a3).kd, ?_, fun H' sm => ?_⟩
            · exact (ok.item (List.mem_cons_of_mem _ (List.mem_cons_self ..))).sz
            · exact k H' sm
          | @cons v3 vs3 e3 es3 a5 a6 =>
            have e : decide (V.int (((v :: v2 :: v3 :: vs3 : List V).length : Nat) : Int) = V.int 2) = false := by
              rw [show (2 : Int) = ((2 : Nat) : Int) from rfl, len_eq]
              exact decide_eq_false (by simp only [List.length_cons]; omega)
            rw [e]
            exact q
    · refine ⟨_, rfl, (by show 2 ≤ sizeLine; decide), fun p np => ?_⟩
      have sm := same_new (o := .tup [V.str sFolder, V.str sFile]) np
      refine ⟨p, _, rfl, .inr (.inl (.inl upd_same)), (by cases wordB d <;> rfl), rfl, _, rfl, ?_⟩
      have q := k _ sm
      cases hw : wordB d with
      | none =>
        rw [(word_none hw).1] at q
        exact q
      | some z =>
        obtain ⟨r, rfl⟩ := word_shape hw
        have nl : z ≠ sLink := fun e => h1 (by rw [hw, e]; exact decide_eq_true rfl)
        rw [show whatB (.tuple (.str z :: r)) = ((decide (z = sFolder) || decide (z = sFile)) && r.isEmpty) by simp only [whatB]; rw [if_neg nl]] at q
        have e : (if false = true then !inV (wV (some z)) [V.str sFolder, V.str sFile] else inV (wV (some z)) [V.str sFolder, V.str sFile]) = (decide (z = sFolder) || decide (z = sFile)) := by
          show ((sFolder == z) || ((sFile == z) || false)) = _
          rw [Bool.or_false, beq_dec, beq_dec]
        show (if (if false = true then !inV (wV (some z)) [V.str sFolder, V.str sFile] else inV (wV (some z)) [V.str sFolder, V.str sFile]) = true then _ else _)
        rw [e]
        refine ite2 (fun h2 => ?_) (fun h2 => ?_)
        · obtain ⟨p2, xs, rfl, sq, al⟩ := th_tup (same_th sm th)
          refine ⟨_, rfl, p2, xs, rfl, .inr sq, rfl, ?_⟩
          rw [h2, Bool.true_and] at q
          have e3 : decide (V.int ((xs.length : Nat) : Int) = V.int 1) = r.isEmpty := by
            rw [dpAll_length al]
            cases r with
            | nil => exact decide_eq_true rfl
            | cons y ys =>
              rw [show (1 : Int) = ((1 : Nat) : Int) from rfl, len_eq]
              exact decide_eq_false (by simp only [List.length_cons]; omega)
          rw [← e3] at q
          exact q
        · rw [Bool.not_eq_true] at h2
          rw [h2, Bool.false_and] at q
          exact q
theorem sc_is_part : FnScope ["sort", "part"] ["sort", "part"] (defScope s_is_part) :=
  ⟨rfl, rfl, rfl, by decide +kernel, rfl, by decide +kernel, by decide +kernel⟩
def spPart (K : PySem.W.Frag) : Sp := fun vs H Q _ => ∃ (z : Str) (x : V) (d : PyData), vs = [.str z, x] ∧ Th K H x d ∧ Ok d ∧ ∀ H', Same H H' → Q (.bl (partB z d)) H'
theorem ok_is_part {f : Addr} {fd f1 f2 f3 f4 f5 : FuncData} (F : Fun K "_is_part" "_is_part" s_is_part f fd) (T : Txt K mg a) (D : TxtD K mg a b)
    (G1 : Keeps P w K mg base CX0 1 a.is_name f1 ["thing"] (spTell K nameB 1000)) (g1 : Binds K f1 ["thing"] [])
    (G2 : Keeps P w K mg base CX0 1 b.is_signs f2 ["thing"] (spTell K signsB 1000)) (g2 : Binds K f2 ["thing"] [])
    (G3 : Keeps P w K mg base CX0 3 b.is_mark f3 ["thing"] (spD K markB)) (g3 : Binds K f3 ["thing"] [])
    (G4 : Keeps P w K mg base CX0 5 b.is_what f4 ["thing"] (spD K whatB)) (g4 : Binds K f4 ["thing"] [])
    (G5 : Keeps P w K mg base CX0 2 b.is_count f5 ["thing"] (spD K countB)) (g5 : Binds K f5 ["thing"] []) :
    Keeps P w K mg base CX0 6 f fd ["sort", "part"] (spPart K) := by
  refine keeps0 F sc_is_part (fun vs H Q E h => ?_) (fun cdv A outer s H vs Q E hr calm h => ?_)
  · obtain ⟨z, x, d, rfl, _⟩ := h
    rfl
  · obtain ⟨z, x, d, rfl, th, ok, k⟩ := h
    have r1 : Room 1 _ := hr.mono (by decide)
    have r2 : Room 2 _ := hr.mono (by decide)
    have r3 : Room 3 _ := hr.mono (by decide)
    refine ⟨_, pss_cons (ps_if (pt_cmpR op_eq (pv 0) pe_str (nomark _)) (pss_one (ps_ret (pe_v (callR_fn G1 r1 calm g1 .nil pass0) (by rfl) T.g_is_name T.k_is_name (pa_cons (pv 1) pa_nil)))) pss_nil)
      (pss_cons (ps_if (pt_cmpR op_eq (pv 0) pe_str (nomark _)) (pss_one (ps_ret (pe_v (callR_fn G2 r1 calm g2 .nil pass0) (by rfl) D.g_is_signs D.k_is_signs (pa_cons (pv 1) pa_nil)))) pss_nil)
      (pss_cons (ps_if (pt_cmpR op_eq (pv 0) pe_str (nomark _)) (pss_one (ps_ret (pe_v (callR_fn G3 r3 calm g3 .nil pass0) (by rfl) D.g_is_mark D.k_is_mark (pa_cons (pv 1) pa_nil)))) pss_nil)
      (pss_cons (ps_if (pt_cmpR op_eq (pv 0) pe_str (nomark _)) (pss_one (ps_ret (pe_v (callR_fn G4 hr calm g4 .nil pass0) (by rfl) D.g_is_what D.k_is_what (pa_cons (pv 1) pa_nil)))) pss_nil)
      (pss_one (ps_ret (pe_v (callR_fn G5 r2 calm g5 .nil pass0) (by rfl) D.g_is_count D.k_is_count (pa_cons (pv 1) pa_nil))))))), ?_⟩
    unfold partB at k
    refine ⟨_, rfl, rfl, _, rfl, ?_⟩
    rw [str_eqV]
    refine ite2 (fun h1 => ?_) (fun h1 => ?_)
    · rw [if_pos (of_decide_eq_true h1)] at k
      exact ⟨_, rfl, x, _, rfl, th.kd, ok.sz, k⟩
    · rw [if_neg (fun e => h1 (decide_eq_true e))] at k
      refine ⟨_, rfl, rfl, _, rfl, ?_⟩
      rw [str_eqV]
      refine ite2 (fun h1 => ?_) (fun h1 => ?_)
      · rw [if_pos (of_decide_eq_true h1)] at k
        exact ⟨_, rfl, x, _, rfl, th.kd, ok.sz, k⟩
      · rw [if_neg (fun e => h1 (decide_eq_true e))] at k
        refine ⟨_, rfl, rfl, _, rfl, ?_⟩
        rw [str_eqV]
        refine ite2 (fun h1 => ?_) (fun h1 => ?_)
        · rw [if_pos (of_decide_eq_true h1)] at k
          exact ⟨_, rfl, x, _, rfl, th, ok, k⟩
        · rw [if_neg (fun e => h1 (decide_eq_true e))] at k
          refine ⟨_, rfl, rfl, _, rfl, ?_⟩
          rw [str_eqV]
          refine ite2 (fun h1 => ?_) (fun h1 => ?_)
          · rw [if_pos (of_decide_eq_true h1)] at k
            exact ⟨_, rfl, x, _, rfl, th, ok, k⟩
          · rw [if_neg (fun e => h1 (decide_eq_true e))] at k
            exact ⟨_, rfl, x, _, rfl, th, ok, k⟩
end
end K4
end

section
open PySem PySem.Spec PyProof.Rows L2 Hv
namespace K4
section
variable {P : Program} {w : World} {K : PySem.W.Frag} {mg : Str → Option Value} {base : Heap} {a : Ad} {b : Bd} {es : Array DictEntry} {n : Nat}
theorem sc_is_single : FnScope ["thing", "word", "sorts", "parts", "sort", "part"] ["thing"] (defScope s_is_single) :=
  ⟨rfl, rfl, rfl, by decide +kernel, rfl, by decide +kernel, by decide +kernel⟩
theorem cut1 (v : V) (vs : List V) : cutV (v :: vs) (some 1) none = vs := by
  have e1 : HT.sIx (v :: vs).length 0 (some 1) = 1 := by simp [HT.sIx] <;> omega
  have e2 : HT.sIx (v :: vs).length (v :: vs).length none = (v :: vs).length := by simp [HT.sIx]
  unfold cutV
  rw [e1, e2]
  simp
theorem gives_zipD {H : Hp} {p q : Addr} {ss : List Str} {vs : List V} {r : List PyData} (ha : SqT K H p (ss.map V.str)) (hb : SqT K H q vs) (al : DpAll K H vs r) (hl : r.length = ss.length) :
    Hv.GivesR (RZ.ItzT K p q) H (ss.zip r) (fun y v H' => ∃ T u, v = .ref T ∧ H' T = some (.tup [.str y.1, u]) ∧ Dp K H u y.2) where
  go := fun i H' s lt => by
    have l := dpAll_length al
    exact (gives_zipT ha hb (by rw [List.length_map]; omega)).go i H' s (by rw [List.length_zip, List.length_map] at *; omega)
  yld := fun i H' x H'' s y lt => by
    have l := dpAll_length al
    obtain ⟨s2, ⟨u, v⟩, e, T, rfl, e2⟩ := (gives_zipT ha hb (by rw [List.length_map]; omega)).yld i H' x H'' s y (by rw [List.length_zip, List.length_map] at *; omega)
    obtain ⟨e3, e4⟩ := List.getElem?_zip_eq_some.mp e
    rw [List.getElem?_map] at e3
    obtain ⟨z, hz, ez⟩ := Option.map_eq_some_iff.mp e3
    obtain ⟨d, hd, dp⟩ := dpAll_get al e4
    subst ez
    exact ⟨s2, (z, d), List.getElem?_zip_eq_some.mpr ⟨hz, hd⟩, T, v, rfl, e2, dp⟩
  stop := fun H' s => by
    have l := dpAll_length al
    have := (gives_zipT ha hb (by rw [List.length_map]; omega)).stop H' s
    rw [List.length_zip, List.length_map] at this
    rw [List.length_zip]
    rw [l] at this
    exact this
theorem ok_is_single {f : Addr} {fd f1 f2 : FuncData} (F : Fun K "_is_single" "_is_single" s_is_single f fd) (T : Txt K mg a) (D : TxtD K mg a b) (W : Forms K w b.forms es n)
    (G : Keeps P w K mg base CX0 1 b.word f1 ["thing"] (spWord K)) (g : Binds K f1 ["thing"] [])
    (G2 : Keeps P w K mg base CX0 6 b.is_part f2 ["sort", "part"] (spPart K)) (g2 : Binds K f2 ["sort", "part"] []) :
    Keeps P w K mg base CX0 7 f fd ["thing"] (spD K singleB) := by
  refine keeps0 F sc_is_single (fun vs H Q E h => ?_) (fun cdv A outer s H vs Q E hr calm h => ?_)
  · obtain ⟨x, d, rfl, _⟩ := h
    rfl
  · obtain ⟨x, d, rfl, th, ok, k⟩ := h
    refine ⟨_, pss_cons (ps_set (i := 1) sc_is_single.nd rfl (Or.inl rfl) (pe_v (callR_fn G (hr.mono (by decide)) calm g .nil pass0) (by rfl) D.g_word D.k_word (pa_cons (pv 0) pa_nil)))
      (pss_cons (ps_if (pt_cmpR (op_notIn_tab W.tab) (pv 1) (pe_glob (v := .ref b.forms) (by rfl) D.c_forms rfl) (by with_unfolding_all rfl)) (pss_one (ps_ret pe_bl)) pss_nil)
      (pss_cons (ps_set (i := 2) sc_is_single.nd rfl (Or.inl rfl) (pe_ix (ix_tab W.tab) (pe_glob (v := .ref b.forms) (by rfl) D.c_forms rfl) (pv 1) (fun _ _ => rfl)))
      (pss_cons (ps_set (i := 3) sc_is_single.nd rfl (Or.inl rfl) (pe_slice sl_tupA (pv 0) (po_some pe_int) po_none))
      (pss_cons (ps_if (pt_cmpR op_ne (pe_callB call_len_seq (by rfl) T.b_len PySem.boot_len (pa_cons (pv 3) pa_nil)) (pe_callB call_len_seq (by rfl) T.b_len PySem.boot_len (pa_cons (pv 2) pa_nil)) (nomark _)) (pss_one (ps_ret pe_bl)) pss_nil)
      (pss_one (ps_ret (pe_callB (cr_all rfl) (by rfl) T.b_all (by decide +kernel) (pa_cons
        (pe_lc (own := [("sort", 4), ("part", 5)]) (g := gTup K 2 (gCons (gName 4) (gCons (gName 5) gNil))) (tt := tYes) rfl sc_is_single.nd (RZ.pi_zipA (by rfl) D.b_zip (pa_cons (pv 2) (pa_cons (pv 3) pa_nil))) (blkOk_by (N := ["thing", "word", "sorts", "parts", "sort", "part"]) (sc := defScope s_is_single) (by decide +kernel))
          (fun _ _ _ _ _ => pg_tup (n := 2) rfl (pgs_cons (pg_name (i := 4) sc_is_single.nd rfl (Or.inl rfl)) (pgs_cons (pg_name (i := 5) sc_is_single.nd rfl (Or.inl rfl)) pgs_nil))) (fun _ _ _ _ _ => pts_nil)
          (fun _ _ _ _ _ => pe_v (callR_fn G2 hr calm g2 .nil pass0) (by rfl) D.g_is_part D.k_is_part (pa_cons (pv 4) (pa_cons (pv 5) pa_nil)))) pa_nil)))))))), ?_⟩
    refine ⟨_, rfl, x, d, rfl, th, ?_⟩
    have q := k H (Same.refl H)
    refine ⟨_, rfl, rfl, ?_⟩
    cases hw : wordB d with
    | none =>
      rw [(word_none hw).2.1] at q
      exact .inl ⟨rfl, _, rfl, q⟩
    | some z =>
      obtain ⟨r, rfl⟩ := word_shape hw
      refine .inr ⟨z, rfl, _, rfl, ?_⟩
      cases hf : formOf z with
      | none =>
        rw [W.no z hf]
        rw [show singleB (.tuple (.str z :: r)) = false by simp only [singleB, hf]] at q
        exact q
      | some ss =>
        obtain ⟨t, e1, sqt⟩ := W.yes z ss hf
        rw [e1]
        have un : singleB (.tuple (.str z :: r)) = (decide (r.length = ss.length) && ((ss.zip r).map fun p => partB p.1 p.2).all id) := by simp only [singleB, hf]
        obtain ⟨p, xs, rfl, sq, al⟩ := th_tup th
        cases al with
        | @cons v vs e es' a1 a2 =>
          refine iteF ⟨_, rfl, z, _, .ref t, rfl, rfl, e1, rfl, ?_⟩
          refine ⟨_, rfl, 1, rfl, p, _, rfl, sq, fun e => ?_, fun _ p2 np => ?_⟩
          · exfalso
            have := e.1
            simp [HT.sIx] at this
          rw [cut1]
          have sm := same_new (o := .tup vs) np
          have lv := dpAll_length a2
          refine ⟨_, rfl, p2, vs, rfl, .inr (.inl (.inl upd_same)), _, rfl, t, _, rfl, .inr (sqt _), rfl, _, rfl, ?_⟩
          rw [List.length_map, len_eq, lv]
          refine ite2 (fun h1 => ?_) (fun h1 => ?_)
          · have h1' : decide (r.length = ss.length) = false := by simpa using h1
            have q2 := k _ sm
            rw [un, h1', Bool.false_and] at q2
            exact q2
          · have h1' : r.length = ss.length := by simpa using h1
            have l1 : (ss.map V.str).length = vs.length := by rw [List.length_map, lv, h1']
            refine ⟨_, rfl, _, rfl, t, p2, ss.map V.str, vs, rfl, .inr ⟨sqt _, .inl (.inl upd_same), fun Dd nD => ?_⟩⟩
            have lr : (ss.zip r).length ≤ 90000 := by
              rw [List.length_zip]
              have := ok.len
              simp only [List.length_cons] at this
              omega
            refine lc_rel (f := fun y : Str × PyData => some (.bl (partB y.1 y.2))) (gives_zipD (sqt _) (.inl (.inl upd_same)) (same_dpAll sm _ _ a2) h1') nD (Nat.le_trans lr (by decide)) (fun y x H' Post mem hR sm2 y1 y2 => ?_) fun H' sm2 at_D => ?_
            · obtain ⟨T2, u, rfl, e2, dp⟩ := hR
              obtain ⟨s', d'⟩ := y
              refine ⟨T2, _, rfl, .inl (.inl e2), rfl, _, _, rfl, _, _, rfl, rfl, rfl, ?_⟩
              refine ⟨_, rfl, _, rfl, s', u, d', rfl, .d (same_dp sm2 _ _ dp), ok.item (List.mem_cons_of_mem _ (List.of_mem_zip mem).2), fun H4 k4 => y1 _ _ rfl k4⟩
            · refine ⟨Dd, (ss.zip r).map fun y => partB y.1 y.2, rfl, ?_, ?_⟩
              · refine SqL.of ?_
                rw [at_D, List.map_map]
                congr 2
                rw [List.filterMap_eq_map']
                rfl
              · have q2 := k H' (sm.trans sm2)
                rw [un, decide_eq_true h1', Bool.true_and] at q2
                exact q2
end
end K4
end

section
open PySem PySem.Spec PyProof.Rows L2 Hv
namespace K4
/-- the things of a tuple as a comprehension meets them -/
theorem gives_tupD {K : PySem.W.Frag} {H : Hp} {p : Addr} {vs : List V} {r : List PyData} (hb : SqT K H p vs) (al : DpAll K H vs r) :
    Hv.GivesR (Itt K p) H r (fun d v H' => Dp K H v d) where
  go := fun i H' s lt => (gives_tup hb).go i H' s (by rw [dpAll_length al]; exact lt)
  yld := fun i H' x H'' s y lt => by
    obtain ⟨rfl, e⟩ := (gives_tup hb).yld i H' x H'' s y (by rw [dpAll_length al]; exact lt)
    obtain ⟨d, hd, dp⟩ := dpAll_get al e
    exact ⟨Same.refl _, d, hd, dp⟩
  stop := fun H' s => by
    have := (gives_tup hb).stop H' s
    rw [dpAll_length al] at this
    exact this
def sAll : Str := Str.ofString "all"
theorem all_of (cs : List PyData) : allB (.tuple [.str (Str.ofString "all"), .tuple cs]) = ((decide (1 ≤ cs.length) && decide (cs.length ≤ 200)) && (cs.map singleB).all id) := by
  simp only [allB, decide_true, Bool.true_and]
theorem all_other {z : Str} {r : List PyData} (h : z ≠ Str.ofString "all") : allB (.tuple (.str z :: r)) = false := by
  cases r with
  | nil => rfl
  | cons e r =>
    cases r with
    | nil =>
      cases e with
      | tuple cs => simp only [allB]; rw [decide_eq_false h, Bool.false_and, Bool.false_and]
      | _ => rfl
    | cons _ _ => cases e <;> rfl
theorem all_many {z : Str} {r : List PyData} (h : r.length ≠ 1) : allB (.tuple (.str z :: r)) = false := by
  cases r with
  | nil => rfl
  | cons e r =>
    cases r with
    | nil => exact absurd rfl h
    | cons _ _ => cases e <;> rfl
theorem all_flat {z : Str} {e : PyData} (h : dTup e = false) : allB (.tuple [.str z, e]) = false := by
  cases e with
  | tuple cs => cases h
  | _ => rfl
section
variable {P : Program} {w : World} {K : PySem.W.Frag} {mg : Str → Option Value} {base : Heap} {a : Ad} {b : Bd} {es : Array DictEntry} {n : Nat}
theorem sc_is_all : FnScope ["thing", "changes", "change"] ["thing"] (defScope s_is_all) :=
  ⟨rfl, rfl, rfl, by decide +kernel, rfl, by decide +kernel, by decide +kernel⟩
theorem ok_is_all {f : Addr} {fd f1 f2 : FuncData} (F : Fun K "_is_all" "_is_all" s_is_all f fd) (T : Txt K mg a) (D : TxtD K mg a b)
    (G : Keeps P w K mg base CX0 1 b.word f1 ["thing"] (spWord K)) (g : Binds K f1 ["thing"] [])
    (G2 : Keeps P w K mg base CX0 7 b.is_single f2 ["thing"] (spD K singleB)) (g2 : Binds K f2 ["thing"] []) :
    Keeps P w K mg base CX0 8 f fd ["thing"] (spD K allB) := by
  refine keeps0 F sc_is_all (fun vs H Q E h => ?_) (fun cdv A outer s H vs Q E hr calm h => ?_)
  · obtain ⟨x, d, rfl, _⟩ := h
    rfl
  · obtain ⟨x, d, rfl, th, ok, k⟩ := h
    obtain ⟨tc, mc⟩ := D.c_changes
    refine ⟨_, pss_cons (ps_if (pw_or (pt_cmpR op_ne (pe_v (callR_fn G (hr.mono (by decide)) calm g .nil pass0) (by rfl) D.g_word D.k_word (pa_cons (pv 0) pa_nil)) pe_str (nomark _))
        (pw_or1 (pt_cmpR op_ne (pe_callB call_len_seq (by rfl) T.b_len PySem.boot_len (pa_cons (pv 0) pa_nil)) pe_int (nomark _)))).pt (pss_one (ps_ret pe_bl)) pss_nil)
      (pss_cons (ps_set (i := 1) sc_is_all.nd rfl (Or.inl rfl) (pe_ix ix_tup (pv 0) pe_int (fun _ _ => rfl)))
      (pss_cons (ps_if (pw_or (pt_not (pt_val (pe_callB call_isi (by rfl) T.b_isi (by decide +kernel) (pa_cons (pv 1) (pa_cons (pe_bltn (v := .ty "tuple") (by rfl) D.b_tuple (by decide +kernel) rfl) pa_nil)))))
        (pw_or1 (pt_not (pt_chain op_le op_le pe_int (pe_callB call_len_seq (by rfl) T.b_len PySem.boot_len (pa_cons (pv 1) pa_nil)) (pe_glob (v := .int 200) (by rfl) mc ⟨_, rfl⟩))))).pt (pss_one (ps_ret pe_bl)) pss_nil)
      (pss_one (ps_ret (pe_callB (cr_all rfl) (by rfl) T.b_all (by decide +kernel) (pa_cons
        (pe_lc (own := [("change", 2)]) (g := gName 2) (tt := tYes) rfl sc_is_all.nd (pi_tup (pv 1)) (blkOk_by (N := ["thing", "changes", "change"]) (sc := defScope s_is_all) (by decide +kernel))
          (fun _ _ _ _ _ => pg_name (i := 2) sc_is_all.nd rfl (Or.inl rfl)) (fun _ _ _ _ _ => pts_nil)
          (fun _ _ _ _ _ => pe_v (callR_fn G2 hr calm g2 .nil pass0) (by rfl) D.g_is_single D.k_is_single (pa_cons (pv 2) pa_nil))) pa_nil)))))), ?_⟩
    refine ⟨_, rfl, x, d, rfl, th, ?_⟩
    refine ⟨scal_w _ _, _, rfl, ?_⟩
    rw [w_eq]
    have q := k H (Same.refl H)
    refine ite2 (fun h1 => ?_) (fun h1 => ?_)
    · have h1' : wordB d ≠ some (Str.ofString "all") := by simpa using h1
      rw [show allB d = false from ?_] at q
      · exact q
      · cases hw : wordB d with
        | none => exact (word_none hw).2.2
        | some z =>
          obtain ⟨r, rfl⟩ := word_shape hw
          exact all_other fun e => h1' (by rw [hw, e])
    · have h1' : wordB d = some (Str.ofString "all") := by simpa using h1
      obtain ⟨r, rfl⟩ := word_shape h1'
      obtain ⟨p, xs, rfl, sq, al⟩ := th_tup th
      refine ⟨_, rfl, p, xs, rfl, .inr sq, rfl, _, rfl, ?_⟩
      rw [show (2 : Int) = ((2 : Nat) : Int) from rfl, len_eq]
      have lx := dpAll_length al
      refine ite2 (fun h2 => ?_) (fun h2 => ?_)
      · have h2' : xs.length ≠ 2 := by simpa using h2
        rw [all_many (by rw [lx, List.length_cons] at h2'; omega)] at q
        exact q
      · have h2' : xs.length = 2 := by simpa using h2
        cases al with
        | @cons v vs e es' a1 a2 =>
          cases a2 with
          | nil => simp at h2'
          | @cons v2 vs2 e2 es2 a3 a4 =>
            cases a4 with
            | cons _ _ => simp at h2'
            | nil =>
              refine ⟨_, rfl, p, _, 1, v2, rfl, rfl, sq, atI_nat (by rfl), ?_⟩
              refine ⟨_, rfl, v2, .ty "tuple", _, _, _, rfl, .ty _, (Th.d a3).ty, kit_ty (kit_tup e2), _, rfl, ?_⟩
              have oke : Ok e2 := ok.item (List.mem_cons_of_mem _ (List.mem_cons_self ..))
              cases hd : dTup e2 with
              | false =>
                rw [all_flat hd] at q
                exact q
              | true =>
                refine iteF ?_
                cases e2 with
                | tuple cs =>
                  obtain ⟨p2, ys, rfl, sq2, al2⟩ := th_tup (Th.d a3)
                  have ly := dpAll_length al2
                  rw [all_of] at k
                  have q := k H (Same.refl H)
                  refine ⟨_, rfl, p2, ys, rfl, .inr sq2, _, _, rfl, rfl, _, rfl, ?_⟩
                  refine ite2 (fun h3 => ?_) (fun h3 => ?_)
                  · have h3' : 1 ≤ cs.length := by have := of_decide_eq_true h3; omega
                    refine ⟨_, _, rfl, rfl, _, rfl, ?_⟩
                    refine ite2 (fun h4 => ?_) (fun h4 => ?_)
                    · have h4' : ¬ cs.length ≤ 200 := fun e => by
                        rw [decide_eq_true (by omega : ((ys.length : Nat) : Int) ≤ 200)] at h4
                        cases h4
                      rw [decide_eq_false h4', Bool.and_false, Bool.false_and] at q
                      exact q
                    · have h4' : cs.length ≤ 200 := by
                        refine Classical.byContradiction fun e => h4 ?_
                        rw [decide_eq_false (by omega : ¬ ((ys.length : Nat) : Int) ≤ 200)]
                        rfl
                      refine ⟨_, rfl, p2, rfl, ⟨_, sq2⟩, fun Dd nD => ?_⟩
                      refine lc_rel (f := fun d => some (.bl (singleB d))) (gives_tupD sq2 al2) nD (Nat.le_trans h4' (by decide)) (fun d u H' Post mem hR sm2 y1 y2 => ?_) fun H' sm2 at_D => ?_
                      · exact ⟨rfl, _, rfl, u, d, rfl, .d (same_dp sm2 _ _ hR), oke.item mem, fun H4 k4 => y1 _ _ rfl k4⟩
                      · refine ⟨Dd, cs.map singleB, rfl, ?_, ?_⟩
                        · refine SqL.of ?_
                          rw [at_D, List.map_map]
                          congr 2
                          rw [List.filterMap_eq_map']
                          rfl
                        · have q2 := k H' sm2
                          rw [decide_eq_true h3', decide_eq_true h4', Bool.true_and, Bool.true_and] at q2
                          exact q2
                  · have h3' : ¬ 1 ≤ cs.length := fun e => h3 (decide_eq_true (by omega))
                    refine ⟨_, rfl, iteT ?_⟩
                    rw [decide_eq_false h3', Bool.false_and, Bool.false_and] at q
                    exact q
                | _ => cases hd
theorem sc_is_change : FnScope ["thing"] ["thing"] (defScope s_is_change) :=
  ⟨rfl, rfl, rfl, by decide +kernel, rfl, by decide +kernel, by decide +kernel⟩
theorem ok_is_change {f : Addr} {fd f1 f2 : FuncData} (F : Fun K "is_change" "is_change" s_is_change f fd) (D : TxtD K mg a b)
    (G : Keeps P w K mg base CX0 7 b.is_single f1 ["thing"] (spD K singleB)) (g : Binds K f1 ["thing"] [])
    (G2 : Keeps P w K mg base CX0 8 b.is_all f2 ["thing"] (spD K allB)) (g2 : Binds K f2 ["thing"] []) :
    Keeps P w K mg base CX0 9 f fd ["thing"] (spD K changeB) := by
  refine keeps0 F sc_is_change (fun vs H Q E h => ?_) (fun cdv A outer s H vs Q E hr calm h => ?_)
  · obtain ⟨x, d, rfl, _⟩ := h
    rfl
  · obtain ⟨x, d, rfl, th, ok, k⟩ := h
    refine ⟨_, pss_one (ps_ret (pe_or (pe_v (callR_fn G (hr.mono (by decide)) calm g .nil pass0) (by rfl) D.g_is_single D.k_is_single (pa_cons (pv 0) pa_nil))
      (pe_one (pe_v (callR_fn G2 hr calm g2 .nil pass0) (by rfl) D.g_is_all D.k_is_all (pa_cons (pv 0) pa_nil))))), ?_⟩
    refine ⟨_, rfl, x, d, rfl, th, ok, fun H1 m1 => ⟨_, rfl, ?_⟩⟩
    refine ite2 (fun h1 => ?_) (fun h1 => ?_)
    · have q := k H1 m1
      rw [show changeB d = (singleB d || allB d) from rfl, h1, Bool.true_or] at q
      exact q
    · rw [Bool.not_eq_true] at h1
      refine ⟨_, rfl, x, d, rfl, same_th m1 th, ok, fun H2 m2 => ?_⟩
      have q := k H2 (m1.trans m2)
      rw [show changeB d = (singleB d || allB d) from rfl, h1, Bool.false_or] at q
      exact q
theorem sc_is_cut : FnScope ["thing"] ["thing"] (defScope s_is_cut) :=
  ⟨rfl, rfl, rfl, by decide +kernel, rfl, by decide +kernel, by decide +kernel⟩
theorem cut_flat {d : PyData} (h : dTup d = false) : cutB d = false := by
  cases d with
  | tuple cs => cases h
  | _ => rfl
theorem cut_many {r : List PyData} (h : r.length ≠ 2) : cutB (.tuple r) = false := by
  cases r with
  | nil => rfl
  | cons e r =>
    cases r with
    | nil => cases e <;> rfl
    | cons e2 r =>
      cases r with
      | nil => exact absurd rfl h
      | cons _ _ => cases e <;> cases e2 <;> rfl
theorem cut_two (e e2 : PyData) : cutB (.tuple [e, e2]) = (countB e2 && ((dStr e).isSome && decide (dStr e = some (Str.ofString "cut back")))) := by
  cases e2 with
  | int i =>
    cases e with
    | str z =>
      show (decide (z = Str.ofString "cut back") && decide (0 ≤ i)) = (decide (0 ≤ i) && (true && decide (some z = some (Str.ofString "cut back"))))
      rw [Bool.true_and, Bool.and_comm]
      congr 1
      exact decide_eq_decide.mpr ⟨fun h => by rw [h], fun h => Option.some.inj h⟩
    | _ => exact (Bool.and_false _).symm
  | _ => cases e <;> rfl
theorem ok_is_cut {f : Addr} {fd f1 : FuncData} (F : Fun K "_is_cut_back" "_is_cut_back" s_is_cut f fd) (T : Txt K mg a) (D : TxtD K mg a b)
    (G : Keeps P w K mg base CX0 2 b.is_count f1 ["thing"] (spD K countB)) (g : Binds K f1 ["thing"] []) :
    Keeps P w K mg base CX0 3 f fd ["thing"] (spD K cutB) := by
  refine keeps0 F sc_is_cut (fun vs H Q E h => ?_) (fun cdv A outer s H vs Q E hr calm h => ?_)
  · obtain ⟨x, d, rfl, _⟩ := h
    rfl
  · obtain ⟨x, d, rfl, th, ok, k⟩ := h
    obtain ⟨tc, mc⟩ := D.c_cut
    refine ⟨_, pss_cons (ps_if (pw_or (pt_not (pt_val (pe_callB call_isi (by rfl) T.b_isi (by decide +kernel) (pa_cons (pv 0) (pa_cons (pe_bltn (v := .ty "tuple") (by rfl) D.b_tuple (by decide +kernel) rfl) pa_nil)))))
        (pw_or (pt_cmpR op_ne (pe_callB call_len_seq (by rfl) T.b_len PySem.boot_len (pa_cons (pv 0) pa_nil)) pe_int (nomark _))
        (pw_or1 (pt_not (pt_val (pe_v (callR_fn G hr calm g .nil pass0) (by rfl) D.g_is_count D.k_is_count (pa_cons (pe_ix ix_tup (pv 0) pe_int (fun _ _ => rfl)) pa_nil))))))).pt (pss_one (ps_ret pe_bl)) pss_nil)
      (pss_one (ps_ret (pe_and (pe_callB call_isi (by rfl) T.b_isi (by decide +kernel) (pa_cons (pe_ix ix_tup (pv 0) pe_int (fun _ _ => rfl)) (pa_cons (pe_bltn (v := .ty "str") (by rfl) T.b_str (by decide +kernel) rfl) pa_nil)))
        (pe_one (pe_cmpR op_eq (pe_ix ix_tup (pv 0) pe_int (fun _ _ => rfl)) (pe_glob (v := .str "cut back") (by rfl) mc ⟨_, rfl⟩) (nomark _)))))), ?_⟩
    refine ⟨_, rfl, x, .ty "tuple", _, _, _, rfl, .ty _, th.ty, kit_ty (kit_tup d), _, rfl, ?_⟩
    have q := k H (Same.refl H)
    cases hd : dTup d with
    | false =>
      rw [cut_flat hd] at q
      exact q
    | true =>
      refine iteF ?_
      cases d with
      | tuple ds =>
        obtain ⟨p, xs, rfl, sq, al⟩ := th_tup th
        have lx := dpAll_length al
        refine ⟨_, rfl, p, xs, rfl, .inr sq, rfl, _, rfl, ?_⟩
        rw [show (2 : Int) = ((2 : Nat) : Int) from rfl, len_eq]
        refine ite2 (fun h2 => ?_) (fun h2 => ?_)
        · have h2' : xs.length ≠ 2 := by simpa using h2
          rw [cut_many (by rw [← lx]; exact h2')] at q
          exact q
        · have h2' : xs.length = 2 := by simpa using h2
          cases al with
          | nil => simp at h2'
          | @cons v vs e es' a1 a2 =>
            cases a2 with
            | nil => simp at h2'
            | @cons v2 vs2 e2 es2 a3 a4 =>
              cases a4 with
              | cons _ _ => simp at h2'
              | nil =>
                rw [cut_two] at k
                have oke : Ok e2 := ok.item (List.mem_cons_of_mem _ (List.mem_cons_self ..))
                refine ⟨_, rfl, p, _, 1, v2, rfl, rfl, sq, atI_nat (by rfl), v2, e2, rfl, .d a3, oke, fun H1 m1 => ⟨_, rfl, ?_⟩⟩
                have q := k H1 m1
                cases hc : countB e2 with
                | false =>
                  rw [hc, Bool.false_and] at q
                  exact q
                | true =>
                  rw [hc, Bool.true_and] at q
                  refine iteF ?_
                  have sq1 := same_tup m1 sq
                  refine ⟨_, rfl, p, _, 0, v, rfl, rfl, sq1, atI_nat (by rfl), v, .ty "str", _, _, _, rfl, .ty _, (Th.d (same_dp m1 _ _ a1)).ty, kit_ty (kit_str e), _, rfl, ?_⟩
                  cases e with
                  | str z =>
                    refine iteT ?_
                    cases a1
                    refine ⟨_, rfl, p, _, 0, .str z, rfl, rfl, sq1, atI_nat (by rfl), rfl, ?_⟩
                    rw [str_eqV]
                    rw [show ((dStr (.str z)).isSome && decide (dStr (.str z) = some (Str.ofString "cut back"))) = decide (z = Str.ofString "cut back") from ?_] at q
                    · exact q
                    · show (true && decide (some z = some (Str.ofString "cut back"))) = _
                      rw [Bool.true_and]
                      exact decide_eq_decide.mpr ⟨fun h => Option.some.inj h, fun h => by rw [h]⟩
                  | _ => exact q
      | _ => cases hd
theorem sc_is_entry : FnScope ["thing"] ["thing"] (defScope s_is_entry) :=
  ⟨rfl, rfl, rfl, by decide +kernel, rfl, by decide +kernel, by decide +kernel⟩
theorem ok_is_entry {f : Addr} {fd f1 f2 : FuncData} (F : Fun K "is_entry" "is_entry" s_is_entry f fd) (D : TxtD K mg a b)
    (G : Keeps P w K mg base CX0 9 b.is_change f1 ["thing"] (spD K changeB)) (g : Binds K f1 ["thing"] [])
    (G2 : Keeps P w K mg base CX0 3 b.is_cut f2 ["thing"] (spD K cutB)) (g2 : Binds K f2 ["thing"] []) :
    Keeps P w K mg base CX0 10 f fd ["thing"] (spD K entryB) := by
  refine keeps0 F sc_is_entry (fun vs H Q E h => ?_) (fun cdv A outer s H vs Q E hr calm h => ?_)
  · obtain ⟨x, d, rfl, _⟩ := h
    rfl
  · obtain ⟨x, d, rfl, th, ok, k⟩ := h
    refine ⟨_, pss_one (ps_ret (pe_or (pe_v (callR_fn G hr calm g .nil pass0) (by rfl) D.g_is_change D.k_is_change (pa_cons (pv 0) pa_nil))
      (pe_one (pe_v (callR_fn G2 (hr.mono (by decide)) calm g2 .nil pass0) (by rfl) D.g_is_cut D.k_is_cut (pa_cons (pv 0) pa_nil))))), ?_⟩
    refine ⟨_, rfl, x, d, rfl, th, ok, fun H1 m1 => ⟨_, rfl, ?_⟩⟩
    refine ite2 (fun h1 => ?_) (fun h1 => ?_)
    · have q := k H1 m1
      rw [show entryB d = (changeB d || cutB d) from rfl, h1, Bool.true_or] at q
      exact q
    · rw [Bool.not_eq_true] at h1
      refine ⟨_, rfl, x, d, rfl, same_th m1 th, ok, fun H2 m2 => ?_⟩
      have q := k H2 (m1.trans m2)
      rw [show entryB d = (changeB d || cutB d) from rfl, h1, Bool.false_or] at q
      exact q
end
end K4
end

section
open PySem PySem.Spec PyProof.Rows L2 Hv
local macro_rules | `(tactic| walk_at "rd") => `(tactic| repeat (first
  | refine ⟨_, rfl, ?_⟩
  | refine ⟨_, _, rfl, rfl, ?_⟩
  | refine ⟨_, _, rfl, ?_⟩
  | refine And.intro (show (0 : Int) < _ by omega) ?_
  | refine And.intro (show CDiv _ _ from ⟨by omega, by omega⟩) ?_
  | refine And.intro (show CMul _ _ from Or.inl ⟨by omega, by omega⟩) ?_
  | refine And.intro (show CMul _ _ from Or.inr ⟨by omega, by omega⟩) ?_
  | refine And.intro (show CPow _ _ from ⟨by decide, by decide, by decide⟩) ?_))
namespace K4
def numB (m : Int) : PyData → Bool
  | .int i => decide (0 ≤ i) && decide (i ≤ m)
  | _ => false
abbrev s_lis_number : Stmt := top 37
abbrev s_lis_part : Stmt := top 38
structure Cd where
  begun : Addr
  take : Addr
  lis_name : Addr
  lsteps : Addr
  good : Addr
  num : Addr
  part : Addr
  change : Addr
  bent : Addr
  right : Addr
structure TxtE (K : PySem.W.Frag) (mg : Str → Option Value) (c : Cd) : Prop where
  b_ord : mg "ord" = none
  b_repr : mg "repr" = none
  b_list : mg "list" = none
  b_min : mg "min" = none
  b_max : mg "max" = none
  b_range : mg "range" = none
  g_begun : mg "_law_begun" = some (.ref c.begun)
  g_take : mg "_law_take" = some (.ref c.take)
  g_lis_name : mg "_law_is_name" = some (.ref c.lis_name)
  g_lsteps : mg "_law_steps" = some (.ref c.lsteps)
  g_good : mg "_law_good" = some (.ref c.good)
  g_num : mg "_law_is_number" = some (.ref c.num)
  g_part : mg "_law_is_part" = some (.ref c.part)
  g_change : mg "_law_is_change" = some (.ref c.change)
  g_bent : mg "_law_bent" = some (.ref c.bent)
  g_right : mg "_law_right" = some (.ref c.right)
  k_begun : PySem.W.keepIn K (.ref c.begun) = true
  k_take : PySem.W.keepIn K (.ref c.take) = true
  k_lis_name : PySem.W.keepIn K (.ref c.lis_name) = true
  k_lsteps : PySem.W.keepIn K (.ref c.lsteps) = true
  k_good : PySem.W.keepIn K (.ref c.good) = true
  k_num : PySem.W.keepIn K (.ref c.num) = true
  k_part : PySem.W.keepIn K (.ref c.part) = true
  k_change : PySem.W.keepIn K (.ref c.change) = true
  k_bent : PySem.W.keepIn K (.ref c.bent) = true
  k_right : PySem.W.keepIn K (.ref c.right) = true
section
variable {P : Program} {w : World} {K : PySem.W.Frag} {mg : Str → Option Value} {base : Heap} {a : Ad} {b : Bd} {c : Cd}
theorem sc_lis_number : FnScope ["_law_thing", "_law_most"] ["_law_thing", "_law_most"] (defScope s_lis_number) :=
  ⟨rfl, rfl, rfl, by decide +kernel, rfl, by decide +kernel, by decide +kernel⟩
def spNum (K : PySem.W.Frag) : Sp := fun vs H Q _ => ∃ (x : V) (d : PyData) (m : Int), vs = [x, .int m] ∧ Th K H x d ∧ Q (.bl (numB m d)) H
theorem ok_lis_number {f : Addr} {fd : FuncData} (F : Fun K "_law_is_number" "_law_is_number" s_lis_number f fd) (T : Txt K mg a) (D : TxtD K mg a b) : Keeps P w K mg base CX0 1 f fd ["_law_thing", "_law_most"] (spNum K) := by
  refine keeps0 F sc_lis_number (fun vs H Q E h => ?_) (fun cdv A outer s H vs Q E hr calm h => ?_)
  · obtain ⟨x, d, m, rfl, _⟩ := h
    rfl
  · obtain ⟨x, d, m, rfl, th, k⟩ := h
    refine ⟨_, pss_one (ps_ret (pe_and (pe_callB call_isi (by rfl) T.b_isi (by decide +kernel) (pa_cons (pv 0) (pa_cons (pe_bltn (v := .ty "int") (by rfl) D.b_int (by decide +kernel) rfl) pa_nil)))
      (pe_and (pe_not (pe_callB call_isi (by rfl) T.b_isi (by decide +kernel) (pa_cons (pv 0) (pa_cons (pe_bltn (v := .ty "bool") (by rfl) D.b_bool (by decide +kernel) rfl) pa_nil))))
      (pe_one (pe_chain op_le op_le pe_int (pv 0) (pv 1)))))), ?_⟩
    refine ⟨_, rfl, x, .ty "int", _, _, _, rfl, .ty _, th.ty, kit_ty (kit_int d), _, rfl, ?_⟩
    cases d with
    | int i =>
      rw [th_int th]
      refine iteT ⟨_, rfl, .int i, .ty "bool", _, _, _, rfl, .ty _, TyX.base (.int i), kit_ty (kit_bl (.int i)), _, rfl, _, rfl, ?_⟩
      refine iteT ⟨_, rfl, _, _, rfl, rfl, _, rfl, ?_⟩
      rw [show numB m (.int i) = (decide (0 ≤ i) && decide (i ≤ m)) from rfl] at k
      refine ite2 (fun h1 => ?_) (fun h1 => ?_)
      · rw [h1, Bool.true_and] at k
        exact ⟨_, rfl, _, _, rfl, rfl, k⟩
      · rw [Bool.not_eq_true] at h1
        rw [h1, Bool.false_and] at k
        exact k
    | bool i => exact ⟨_, rfl, x, .ty "bool", _, _, _, rfl, .ty _, th.ty, kit_ty (kit_bl _), _, rfl, _, rfl, k⟩
    | _ => exact k
theorem sc_lis_part : FnScope ["_law_sign", "_law_thing", "_law_one"] ["_law_sign", "_law_thing"] (defScope s_lis_part) :=
  ⟨rfl, rfl, rfl, by decide +kernel, rfl, by decide +kernel, by decide +kernel⟩
theorem ok_num {d : PyData} (h : Ok d) : numB (10 ^ 40) d = countB d := by
  cases d with
  | int i =>
    have g := h.good (fun e => nomatch e)
    simp only [Hv.good, okI, Bool.and_eq_true, decide_eq_true_iff] at g
    show (decide (0 ≤ i) && decide (i ≤ 10 ^ 40)) = decide (0 ≤ i)
    rw [decide_eq_true (show i ≤ 10 ^ 40 by omega), Bool.and_true]
  | _ => rfl
theorem num_mark (d : PyData) : numB 999 d = markB d := by cases d <;> rfl
def lpB (s : Str) (d : PyData) : Bool :=
  if s = Str.ofString "n" then countB d else if s = Str.ofString "k" then markB d else if s = Str.ofString "a" then dNm nameB d else if s = Str.ofString "t" then dNm signsB d else whatB d
def spLPart (K : PySem.W.Frag) : Sp := fun vs H Q _ => ∃ (z : Str) (x : V) (d : PyData), vs = [.str z, x] ∧ Th K H x d ∧ Ok d ∧ ∀ H', Same H H' → Q (.bl (lpB z d)) H'
theorem eqv_link (ds : List PyData) : PyData.eqv (.tuple (ds.take 1)) (.tuple [.str sLink]) = decide (wordB (.tuple ds) = some sLink) := by
  cases ds with
  | nil => rfl
  | cons e r =>
    rw [List.take_succ_cons, List.take_zero]
    cases e with
    | str z =>
      show ((z == sLink) && true) = decide (some z = some sLink)
      rw [Bool.and_true, Bool.eq_iff_iff, beq_iff_eq, decide_eq_true_iff]
      exact ⟨fun h => by rw [h], fun h => Option.some.inj h⟩
    | _ => rfl
theorem eqv_two (z : Str) (ds : List PyData) : PyData.eqv (.tuple [.str z]) (.tuple ds) = (decide (wordB (.tuple ds) = some z) && ds.tail.isEmpty) := by
  cases ds with
  | nil => simp only [PyData.eqv, PyData.eqvAll, List.tail_nil, List.isEmpty_nil, wordB]; rfl
  | cons e r =>
    cases e with
    | str y =>
      show ((z == y) && PyData.eqvAll [] r) = (decide (some y = some z) && r.isEmpty)
      congr 1
      · rw [Bool.eq_iff_iff, beq_iff_eq, decide_eq_true_iff]
        exact ⟨fun h => by rw [h], fun h => (Option.some.inj h).symm⟩
      · cases r <;> simp [PyData.eqvAll]
    | _ => simp only [PyData.eqv, PyData.eqvAll, wordB, Bool.false_and]; rfl
theorem cutT1 (xs : List V) : cutV xs none (some 1) = xs.take 1 := by
  have e1 : HT.sIx xs.length 0 none = 0 := by simp [HT.sIx]
  unfold cutV
  rw [e1, List.drop_zero, Nat.sub_zero]
  cases xs with
  | nil => simp
  | cons v vs =>
    have e2 : HT.sIx (v :: vs).length (v :: vs).length (some 1) = 1 := by simp [HT.sIx] <;> omega
    rw [e2]
end
end K4
end

section
open PySem PySem.Spec PyProof.Rows L2 Hv
local macro_rules | `(tactic| walk_at "rd") => `(tactic| repeat (first
  | refine ⟨_, rfl, ?_⟩
  | refine ⟨_, _, rfl, rfl, ?_⟩
  | refine ⟨_, _, rfl, ?_⟩
  | refine And.intro (show (0 : Int) < _ by omega) ?_
  | refine And.intro (show CDiv _ _ from ⟨by omega, by omega⟩) ?_
  | refine And.intro (show CMul _ _ from Or.inl ⟨by omega, by omega⟩) ?_
  | refine And.intro (show CMul _ _ from Or.inr ⟨by omega, by omega⟩) ?_
  | refine And.intro (show CPow _ _ from ⟨by decide, by decide, by decide⟩) ?_))
namespace Hv
theorem hu_one {A : Around} {k : Nat} (hr : Room k A) : A.units + 1 < cLine := by have := hr.un; omega
theorem hu_in {A : Around} {k : Nat} (hr : Room k A) : A.units + 65 < cLine := by have := hr.un; omega
/-- t[lo:hi], wherever it stands -/
theorem sl_tupU {X : Cx} : SlR X (fun x lo hi H Q => ∃ (a : Addr) (xs : List V), x = .ref a ∧ SqT X.K H a xs ∧ ∀ p H', Same H H' → SqT X.K H' p (cutV xs lo hi) → Q (.ref p) H') := by
  intro pins s σ H x v vl vu lo hi sl Q I rx hs pl pu h
  obtain ⟨a, xs, rfl, hx, q⟩ := h
  refine sl_tupA pins s σ H _ v vl vu lo hi sl Q I rx hs pl pu ⟨a, xs, rfl, hx, fun e => q a H (Same.refl H) ?_, fun _ p np => q p _ (same_new np) (.inl (.inl upd_same))⟩
  have e3 : cutV xs lo hi = xs := by
    unfold cutV
    rw [e.1, e.2, List.drop_zero, Nat.sub_zero, List.take_length]
  rw [e3]
  exact hx
end Hv
namespace K4
section
variable {P : Program} {w : World} {K : PySem.W.Frag} {mg : Str → Option Value} {base : Heap} {a : Ad} {b : Bd} {c : Cd}
theorem what_len {ds : List PyData} (h : ds.length ≠ 2) (h2 : wordB (.tuple ds) = some sLink) : whatB (.tuple ds) = false := by
  obtain ⟨r, e⟩ := word_shape h2
  injection e with e
  subst e
  rw [show sLink = Str.ofString "link" from rfl, what_link]
  cases r with
  | nil => rfl
  | cons x r =>
    cases r with
    | nil => exact absurd rfl h
    | cons _ _ => rfl
theorem what_other {ds : List PyData} (h2 : wordB (.tuple ds) ≠ some sLink) : whatB (.tuple ds) = ([PyData.tuple [.str sFolder], PyData.tuple [.str sFile]].any fun z => PyData.eqv z (.tuple ds)) := by
  rw [List.any_cons, List.any_cons, List.any_nil, Bool.or_false, eqv_two, eqv_two]
  cases hw : wordB (.tuple ds) with
  | none =>
    rw [(word_none hw).1]
    rfl
  | some z =>
    obtain ⟨r, e⟩ := word_shape hw
    injection e with e
    subst e
    have nl : z ≠ sLink := fun e => h2 (by rw [hw, e])
    simp only [whatB]
    rw [if_neg nl]
    show ((decide (z = sFolder) || decide (z = sFile)) && r.isEmpty) = ((decide (some z = some sFolder) && r.isEmpty) || (decide (some z = some sFile) && r.isEmpty))
    rw [show decide (some z = some sFolder) = decide (z = sFolder) from decide_eq_decide.mpr ⟨fun h => Option.some.inj h, fun h => by rw [h]⟩, show decide (some z = some sFile) = decide (z = sFile) from decide_eq_decide.mpr ⟨fun h => Option.some.inj h, fun h => by rw [h]⟩]
    cases decide (z = sFolder) <;> cases decide (z = sFile) <;> cases r.isEmpty <;> rfl
theorem ok_lis_part {f : Addr} {fd f1 f2 f3 : FuncData} (F : Fun K "_law_is_part" "_law_is_part" s_lis_part f fd) (T : Txt K mg a) (D : TxtD K mg a b) (L : TxtE K mg c)
    (G1 : Keeps P w K mg base CX0 1 c.num f1 ["_law_thing", "_law_most"] (spNum K)) (g1 : Binds K f1 ["_law_thing", "_law_most"] [])
    (G2 : Keeps P w K mg base CX0 1 c.lis_name f2 ["_law_thing"] (spTellT K nameB)) (g2 : Binds K f2 ["_law_thing"] [])
    (G3 : Keeps P w K mg base CX0 2 c.lsteps f3 ["_law_thing"] (spLSteps K)) (g3 : Binds K f3 ["_law_thing"] []) :
    Keeps P w K mg base CX0 3 f fd ["_law_sign", "_law_thing"] (spLPart K) := by
  refine keeps0 F sc_lis_part (fun vs H Q E h => ?_) (fun cdv A outer s H vs Q E hr calm h => ?_)
  · obtain ⟨z, x, d, rfl, _⟩ := h
    rfl
  · obtain ⟨z, x, d, rfl, th, ok, k⟩ := h
    have r1 : Room 1 _ := hr.mono (by decide)
    refine ⟨_, pss_cons (ps_if (pt_cmpR op_eq (pv 0) pe_str (nomark _)) (pss_one (ps_ret (pe_v (callR_fn G1 r1 calm g1 .nil pass0) (by rfl) L.g_num L.k_num (pa_cons (pv 1) (pa_cons (pe_op op_pow pe_int pe_int) pa_nil))))) pss_nil)
      (pss_cons (ps_if (pt_cmpR op_eq (pv 0) pe_str (nomark _)) (pss_one (ps_ret (pe_v (callR_fn G1 r1 calm g1 .nil pass0) (by rfl) L.g_num L.k_num (pa_cons (pv 1) (pa_cons pe_int pa_nil))))) pss_nil)
      (pss_cons (ps_if (pt_cmpR op_eq (pv 0) pe_str (nomark _)) (pss_one (ps_ret (pe_v (callR_fn G2 r1 calm g2 .nil pass0) (by rfl) L.g_lis_name L.k_lis_name (pa_cons (pv 1) pa_nil)))) pss_nil)
      (pss_cons (ps_if (pt_cmpR op_eq (pv 0) pe_str (nomark _))
        (pss_cons (ps_if (pw_or (pt_not (pt_val (pe_callB call_isi (by rfl) T.b_isi (by decide +kernel) (pa_cons (pv 1) (pa_cons (pe_bltn (v := .ty "str") (by rfl) T.b_str (by decide +kernel) rfl) pa_nil)))))
            (pw_or1 (pt_cmpR op_gt (pe_callB call_len_str (by rfl) T.b_len PySem.boot_len (pa_cons (pv 1) pa_nil)) pe_int (nomark _)))).pt (pss_one (ps_ret pe_bl)) pss_nil)
        (pss_one (ps_ret (pe_cmpR (op_eqD (hu_of' hr)) (pe_lc (own := [("_law_one", 2)]) (g := gName 2) rfl sc_lis_part.nd (pi_str (pv 1)) (blkOk_by (N := ["_law_sign", "_law_thing", "_law_one"]) (sc := defScope s_lis_part) (by decide +kernel))
          (fun _ _ _ _ _ => pg_name (i := 2) sc_lis_part.nd rfl (Or.inl rfl)) (fun _ _ _ _ _ => pts_one (pw_and (pt_cmpR op_ne (pv 2) pe_str (nomark _)) (pw_and1 (pt_not (pt_chain op_le op_le pe_int (pe_callB call_ord (by rfl) L.b_ord (by decide +kernel) (pa_cons (pv 2) pa_nil)) pe_int)))).pt) (fun _ _ _ _ _ => pv 2)) (pe_lst pa_nil) (nomark _))))) pss_nil)
      (pss_cons (ps_if (pt_not (pt_val (pe_callB call_isi (by rfl) T.b_isi (by decide +kernel) (pa_cons (pv 1) (pa_cons (pe_bltn (v := .ty "tuple") (by rfl) D.b_tuple (by decide +kernel) rfl) pa_nil))))) (pss_one (ps_ret pe_bl)) pss_nil)
      (pss_cons (ps_if (pt_cmpR (op_eqD (hu_of' hr)) (pe_slice sl_tupU (pv 1) po_none (po_some pe_int)) (pe_tup (pa_cons pe_str pa_nil)) (nomark _))
        (pss_one (ps_ret (pe_and (pe_cmpR op_eq (pe_callB call_len_seq (by rfl) T.b_len PySem.boot_len (pa_cons (pv 1) pa_nil)) pe_int (nomark _))
          (pe_one (pe_cmpR op_notN (pe_v (callR_fn G3 hr calm g3 .nil pass0) (by rfl) L.g_lsteps L.k_lsteps (pa_cons (pe_ix ix_tup (pv 1) pe_int (fun _ _ => rfl)) pa_nil)) pe_non (nomark _)))))) pss_nil)
      (pss_one (ps_ret (pe_cmpR (op_inD (hu_in hr)) (pv 1) (pe_lst (pa_cons (pe_tup (pa_cons pe_str pa_nil)) (pa_cons (pe_tup (pa_cons pe_str pa_nil)) pa_nil))) (by with_unfolding_all rfl))))))))), ?_⟩
    unfold lpB at k
    refine ⟨_, rfl, rfl, _, rfl, ?_⟩
    rw [str_eqV]
    refine ite2 (fun h1 => ?_) (fun h1 => ?_)
    · rw [if_pos (of_decide_eq_true h1)] at k
      walk_at "rd"
      refine ⟨x, d, _, rfl, th, ?_⟩
      have q := k H (Same.refl H)
      rw [← ok_num ok] at q
      exact q
    rw [if_neg (fun e => h1 (decide_eq_true e))] at k
    refine ⟨_, rfl, rfl, _, rfl, ?_⟩
    rw [str_eqV]
    refine ite2 (fun h1 => ?_) (fun h1 => ?_)
    · rw [if_pos (of_decide_eq_true h1)] at k
      refine ⟨_, rfl, x, d, 999, rfl, th, ?_⟩
      have q := k H (Same.refl H)
      rw [← num_mark] at q
      exact q
    rw [if_neg (fun e => h1 (decide_eq_true e))] at k
    refine ⟨_, rfl, rfl, _, rfl, ?_⟩
    rw [str_eqV]
    refine ite2 (fun h1 => ?_) (fun h1 => ?_)
    · rw [if_pos (of_decide_eq_true h1)] at k
      exact ⟨_, rfl, x, _, rfl, th.kd, fun z e => (ok.tx z e).up (by decide), k⟩
    rw [if_neg (fun e => h1 (decide_eq_true e))] at k
    refine ⟨_, rfl, rfl, _, rfl, ?_⟩
    rw [str_eqV]
    refine ite2 (fun h1 => ?_) (fun h1 => ?_)
    · rw [if_pos (of_decide_eq_true h1)] at k
      have kd := th.kd
      have sz : ∀ z, dStr d = some z → Tx 1000 z := fun z e => (ok.tx z e).up (by decide)
      unfold dNm at k
      clear th ok h1
      generalize dStr d = o at kd sz k
      cases kd with
      | oth ty no =>
        exact ⟨_, rfl, x, .ty "str", _, _, false, rfl, .ty _, ty, no, _, rfl, k H (Same.refl H)⟩
      | str z =>
        have hz := (sz z rfl).1
        have hs : z.length ≤ sizeLine := Nat.le_of_lt (small1000 hz)
        have q0 := fun H' sm => k H' sm
        rw [show (some z).elim false signsB = signsB z from rfl] at q0
        refine ⟨_, rfl, .str z, .ty "str", _, _, true, rfl, .ty _, .base (.str z), kit_ty (show kitB "str" "str" = some true by decide +kernel), _, rfl, ?_⟩
        refine iteF ?_
        refine ⟨_, rfl, z, rfl, hs, _, _, rfl, rfl, _, rfl, ?_⟩
        refine ite2 (fun h1 => ?_) (fun h1 => ?_)
        · have h1' : ¬ z.cps.size ≤ 200 := by have q := of_decide_eq_true h1; unfold Str.length at q; omega
          have q := q0 H (Same.refl H)
          rw [show signsB z = false by simp [signsB, h1']] at q
          exact q
        · have h1' : z.cps.size ≤ 200 := by
            refine Classical.byContradiction fun q => h1 ?_
            unfold Str.length
            exact decide_eq_true (by omega : (200 : Int) < (z.cps.size : Int))
          refine ⟨_, rfl, z, rfl, fun D hD => ?_⟩
          refine lc_text (f := fun c => if codeB c = true then none else some (.str ⟨#[c]⟩)) hD (by have := small1000 hz; exact this) (fun c H' Post sm y1 y2 => ?_) fun H' sm at_D => ?_
          · refine ⟨rfl, ?_⟩
            have un : codeB c = ((decide (32 ≤ c) && decide (c ≤ 126)) || decide (c = 10)) := rfl
            refine ⟨_, rfl, rfl, _, rfl, ?_⟩
            rw [one_feed]
            by_cases h10 : c = 10
            · have cb : codeB c = true := by rw [un, decide_eq_true h10, Bool.or_true]
              rw [decide_eq_true h10]
              exact y2 H' (by rw [if_pos cb]) (Same.refl H')
            · rw [decide_eq_false h10]
              have cb : codeB c = (decide (32 ≤ c) && decide (c ≤ 126)) := by rw [un, decide_eq_false h10, Bool.or_false]
              have e1 : decide ((32 : Int) ≤ ((((⟨#[c]⟩ : Str).cps.getD 0 0 : Nat)) : Int)) = decide (32 ≤ c) := decide_eq_decide.mpr (by show (32 : Int) ≤ (c : Int) ↔ _; omega)
              have e2 : decide (((((⟨#[c]⟩ : Str).cps.getD 0 0 : Nat)) : Int) ≤ 126) = decide (c ≤ 126) := decide_eq_decide.mpr (by show (c : Int) ≤ 126 ↔ _; omega)
              refine ⟨_, rfl, ⟨#[c]⟩, rfl, rfl, _, _, rfl, rfl, _, rfl, ?_⟩
              rw [e1]
              refine ite2 (fun g1 => ?_) (fun g1 => ?_)
              · refine ⟨_, _, rfl, rfl, _, rfl, ?_⟩
                rw [e2]
                rw [g1, Bool.true_and] at cb
                cases g2 : decide (c ≤ 126) with
                | true => exact y2 H' (by rw [cb, g2]; rfl) (Same.refl H')
                | false => exact ⟨_, rfl, y1 _ H' (by rw [cb, g2]; rfl) (Same.refl H')⟩
              · rw [Bool.not_eq_true] at g1
                rw [g1, Bool.false_and] at cb
                exact ⟨_, rfl, ⟨_, rfl, y1 _ H' (by rw [cb]; rfl) (Same.refl H')⟩⟩
          · have e1 : z.cps.toList.filterMap (fun c => if codeB c = true then none else some (V.str ⟨#[c]⟩)) = (((z.cps.toList.filter fun c => !codeB c).map fun c => (⟨#[c]⟩ : Str)).map V.str) := by
              rw [List.map_map]
              induction z.cps.toList with
              | nil => rfl
              | cons c r ih => cases hl : codeB c <;> simp [hl, ih]
            refine ⟨(by show 0 ≤ sizeLine; decide), fun p np => ?_⟩
            rw [e1] at at_D
            refine eq_nil_of (zs := (z.cps.toList.filter fun c => !codeB c).map fun c => (⟨#[c]⟩ : Str)) (SqL.of (by rw [upd_ne (ne_of_none at_D np)]; exact at_D)) (SqL.of upd_same) (fun y hy => ?_) ?_
            · obtain ⟨c, hc, rfl⟩ := List.mem_map.mp hy
              have := (sz z rfl).2 c (List.mem_filter.mp hc).1
              simp [PyData.strOk]; omega
            · have q := q0 _ (sm.trans (same_new (o := .lst []) np))
              have e2 : signsB z = ((z.cps.toList.filter fun c => !codeB c).map fun c => (⟨#[c]⟩ : Str)).isEmpty := by
                rw [show signsB z = z.cps.toList.all codeB by simp [signsB, h1'], Bool.eq_iff_iff, List.all_eq_true]
                simp
              rw [e2] at q
              exact q
    rw [if_neg (fun e => h1 (decide_eq_true e))] at k
    refine ⟨_, rfl, x, .ty "tuple", _, _, _, rfl, .ty _, th.ty, kit_ty (kit_tup d), _, rfl, ?_⟩
    have q := k H (Same.refl H)
    cases d with
    | tuple ds =>
      refine iteF ?_
      obtain ⟨p, xs, rfl, sq, al⟩ := th_tup th
      refine ⟨_, rfl, 1, rfl, p, xs, rfl, sq, fun p1 H1 m1 sq1 => ?_⟩
      rw [cutT1] at sq1
      refine ⟨(by show 1 ≤ sizeLine; decide), fun p2 np => ?_⟩
      have m2 := m1.trans (same_new (o := .tup [V.str sLink]) np)
      have okt := ok.good (fun e => nomatch e)
      simp only [Hv.good] at okt
      have dep := ok.deep
      simp only [PyData.depth] at dep
      have okt1 : Hv.good (.tuple (ds.take 1)) = true := by
        simp only [Hv.good]
        exact (goodAll_iff _).mpr fun y hy => (goodAll_iff _).mp okt y (List.mem_of_mem_take hy)
      have dep1 : (PyData.tuple (ds.take 1)).depth ≤ 64 := by
        simp only [PyData.depth]
        have := depthAll_le (ds.take 1) _ fun y hy => depth_mem (List.mem_of_mem_take hy)
        omega
      refine ⟨.tuple (ds.take 1), .tuple [.str sLink], .tup (same_tup (same_new np) sq1) (dpAll_take 1 (same_dpAll m2 _ _ al)), .tup (.inl (.inl upd_same)) (.cons (.str _) .nil), good_shaped okt1 dep1, good_shaped (by decide +kernel) (by decide +kernel), _, rfl, ?_⟩
      rw [eqv_link]
      have sqm := same_tup m2 sq
      have alm := same_dpAll m2 _ _ al
      refine ite2 (fun h2 => ?_) (fun h2 => ?_)
      · have h2' := of_decide_eq_true h2
        refine ⟨_, rfl, p, xs, rfl, .inr sqm, rfl, _, rfl, ?_⟩
        rw [show (2 : Int) = ((2 : Nat) : Int) from rfl, len_eq, dpAll_length al]
        refine ite2 (fun h3 => ?_) (fun h3 => ?_)
        · have h3' : ds.length = 2 := of_decide_eq_true h3
          obtain ⟨r, e⟩ := word_shape h2'
          injection e with e
          subst e
          cases r with
          | nil => simp at h3'
          | cons e2 r =>
            cases r with
            | cons _ _ => simp at h3'
            | nil =>
              cases alm with
              | @cons v vs _ _ a1 a2 =>
                cases a2 with
                | @cons v2 vs2 _ _ a3 a4 =>
                  cases a4
                  have oke : Ok e2 := ok.item (List.mem_cons_of_mem _ (List.mem_cons_self ..))
                  refine ⟨_, rfl, p, _, 1, v2, rfl, rfl, sqm, atI_nat (by rfl), v2, dStr e2, rfl, (Th.d a3).kd, fun z e => (oke.tx z e).up (by decide), fun v H3 m3 hv => ⟨rfl, ?_⟩⟩
                  rw [hv, Bool.not_not]
                  have q := k _ (m2.trans m3)
                  rw [show sLink = Str.ofString "link" from rfl, what_link] at q
                  exact q
        · have q := k _ m2
          rw [what_len (fun e => h3 (decide_eq_true e)) h2'] at q
          exact q
      · have h2' : wordB (.tuple ds) ≠ some sLink := fun e => h2 (decide_eq_true e)
        rw [what_other h2'] at k
        refine ⟨_, rfl, (by show 1 ≤ sizeLine; decide), fun p3 n3 => ⟨(by show 1 ≤ sizeLine; decide), fun p4 n4 => ⟨(by show 2 ≤ sizeLine; decide), fun p5 n5 => ?_⟩⟩⟩
        have m3 := same_new (o := .tup [V.str sFolder]) n3
        have m4 := same_new (o := .tup [V.str sFile]) n4
        have m5 := same_new (o := .lst [V.ref p3, V.ref p4]) n5
        have m35 := m3.trans (m4.trans m5)
        refine ⟨.tuple ds, [.tuple [.str sFolder], .tuple [.str sFile]], .tup (same_tup m35 sqm) (same_dpAll m35 _ _ alm), ?_, ?_, good_shaped (by decide +kernel) (by decide +kernel), ?_⟩
        · refine .lst (.inl (.inl upd_same)) (.cons (.tup (.inl (.inl ?_)) (.cons (.str _) .nil)) (.cons (.tup (.inl (.inl ?_)) (.cons (.str _) .nil)) .nil))
          · exact (m4.trans m5) _ _ upd_same
          · exact m5 _ _ upd_same
        · exact good_shaped (by simp only [Hv.good]; exact okt) (by simp only [PyData.depth]; omega)
        · exact k _ (m2.trans m35)
    | _ => exact q
end
end K4
end

section
open PySem PySem.Spec PyProof.Rows L2 Hv
namespace K4
abbrev s_lchange : Stmt := top 39
theorem sc_lchange : FnScope ["_law_thing", "_law_kinds", "_law_signs", "_law_one", "_law_k"] ["_law_thing"] (defScope s_lchange) :=
  ⟨rfl, rfl, rfl, by decide +kernel, rfl, by decide +kernel, by decide +kernel⟩
def kindTab : List (Str × Str) := [("make", "nanw"), ("write", "nnt"), ("cut", "nn"), ("name", "nan"), ("strike", "na"), ("move", "nana"), ("exchange", "nana"), ("mark", "nk")]
def kindsOf (z : Str) : Option Str := (kindTab.find? fun p => decide (p.1 = z)).map (·.2)
def tabKV (t : List (Str × Str)) : List (Key × V) := t.map fun p => ((.inr p.1 : Key), V.str p.2)
theorem val_tab (z : Str) : ∀ t : List (Str × Str), valV (tabKV t) (.inr z) = ((t.find? fun p => decide (p.1 = z)).map (·.2)).map V.str
  | [] => rfl
  | p :: t => by
    by_cases h : p.1 = z
    · rw [show tabKV (p :: t) = (.inr p.1, V.str p.2) :: tabKV t from rfl, valV_pos (by rw [h]), List.find?_cons, decide_eq_true h]
      rfl
    · rw [show tabKV (p :: t) = (.inr p.1, V.str p.2) :: tabKV t from rfl, valV_neg (fun e => h (Sum.inr.inj e)), val_tab z t, List.find?_cons, decide_eq_false h]
def pairTab : List (Nat × Str) := [(110, "number"), (97, "name"), (119, "what"), (116, "signs"), (107, "mark")]
def fitsKF (ks : Str) (ss : List Str) : Bool := decide (ks.cps.toList.length = ss.length) && decide (ss.length ≤ 5) && (ks.cps.toList.zip ss).all fun p => decide (p ∈ pairTab)
theorem kinds_forms (z : Str) : (kindsOf z = none ∧ formOf z = none) ∨ ∃ ks ss, kindsOf z = some ks ∧ formOf z = some ss ∧ fitsKF ks ss = true := by
  by_cases h1 : z = "make"
  · subst h1; exact .inr ⟨_, _, rfl, by with_unfolding_all rfl, by decide +kernel⟩
  by_cases h2 : z = "write"
  · subst h2; exact .inr ⟨"nnt", ["number", "number", "signs"], by decide +kernel, by decide +kernel, by decide +kernel⟩
  by_cases h3 : z = "cut"
  · subst h3; exact .inr ⟨"nn", ["number", "number"], by decide +kernel, by decide +kernel, by decide +kernel⟩
  by_cases h4 : z = "name"
  · subst h4; exact .inr ⟨"nan", ["number", "name", "number"], by decide +kernel, by decide +kernel, by decide +kernel⟩
  by_cases h5 : z = "strike"
  · subst h5; exact .inr ⟨"na", ["number", "name"], by decide +kernel, by decide +kernel, by decide +kernel⟩
  by_cases h6 : z = "move"
  · subst h6; exact .inr ⟨"nana", ["number", "name", "number", "name"], by decide +kernel, by decide +kernel, by decide +kernel⟩
  by_cases h7 : z = "exchange"
  · subst h7; exact .inr ⟨"nana", ["number", "name", "number", "name"], by decide +kernel, by decide +kernel, by decide +kernel⟩
  by_cases h8 : z = "mark"
  · subst h8; exact .inr ⟨"nk", ["number", "mark"], by decide +kernel, by decide +kernel, by decide +kernel⟩
  refine .inl ⟨?_, ?_⟩
  · unfold kindsOf kindTab
    rw [List.find?_eq_none.mpr]
    · rfl
    · intro p hp
      simp only [List.mem_cons, List.not_mem_nil, or_false] at hp
      rw [decide_eq_true_iff]
      rcases hp with e | e | e | e | e | e | e | e <;> (rw [e]; intro e2; first | exact h1 e2.symm | exact h2 e2.symm | exact h3 e2.symm | exact h4 e2.symm | exact h5 e2.symm | exact h6 e2.symm | exact h7 e2.symm | exact h8 e2.symm)
  · unfold formOf
    rw [if_neg h1, if_neg h2, if_neg h3, if_neg h4, if_neg h5, if_neg h6, if_neg h7, if_neg h8]
theorem pair_part {c : Nat} {s : Str} (h : (c, s) ∈ pairTab) (d : PyData) : lpB ⟨#[c]⟩ d = partB s d := by
  simp only [pairTab, List.mem_cons, List.not_mem_nil, or_false, Prod.mk.injEq] at h
  unfold lpB partB
  rcases h with ⟨rfl, rfl⟩ | ⟨rfl, rfl⟩ | ⟨rfl, rfl⟩ | ⟨rfl, rfl⟩ | ⟨rfl, rfl⟩
  · rw [if_pos (by decide +kernel), if_neg (by decide +kernel), if_neg (by decide +kernel), if_neg (by decide +kernel), if_neg (by decide +kernel)]
  · rw [if_neg (by decide +kernel), if_neg (by decide +kernel), if_pos (by decide +kernel), if_pos (by decide +kernel)]
  · rw [if_neg (by decide +kernel), if_neg (by decide +kernel), if_neg (by decide +kernel), if_neg (by decide +kernel), if_neg (by decide +kernel), if_neg (by decide +kernel), if_neg (by decide +kernel), if_pos (by decide +kernel)]
  · rw [if_neg (by decide +kernel), if_neg (by decide +kernel), if_neg (by decide +kernel), if_pos (by decide +kernel), if_neg (by decide +kernel), if_pos (by decide +kernel)]
  · rw [if_neg (by decide +kernel), if_pos (by decide +kernel), if_neg (by decide +kernel), if_neg (by decide +kernel), if_pos (by decide +kernel)]
theorem okI_small : ∀ k < 10, okI ((k : Nat) : Int) = true := by decide +kernel
theorem gives_rngD {H : Hp} {n : Nat} : Hv.GivesR (Itr 0 n) H (List.range n) (fun i v _ => v = .int (i : Int)) where
  go := fun i H' s lt => gives_rng.go i H' s (by simpa using lt)
  yld := fun i H' x H'' s y lt => by
    obtain ⟨rfl, e⟩ := (gives_rng (H := H)).yld i H' x H'' s y (by simpa using lt)
    have lt' : i < n := by simpa using lt
    refine ⟨Same.refl _, i, by simp [lt'], ?_⟩
    simp [lt'] at e
    rw [← e]
  stop := fun H' s => by
    have := (gives_rng (H := H) (lo := 0) (n := n)).stop H' s
    simpa using this
end K4
end

section
open PySem PySem.Spec PyProof.Rows L2 Hv
namespace K4
def kv6 : List (Key × V) := tabKV [("make", "nanw"), ("write", "nnt"), ("cut", "nn"), ("name", "nan"), ("strike", "na"), ("move", "nana")]
theorem kv_all : putK (putK (mergeK [] kv6) (.inr "exchange") (V.str "nana")) (.inr "mark") (V.str "nk") = tabKV kindTab := by decide +kernel
theorem kv_len6 : (mergeK [] kv6).length < sizeLine := by decide +kernel
theorem kv_len7 : (putK (mergeK [] kv6) (.inr "exchange") (V.str "nana")).length < sizeLine := by decide +kernel
theorem fits_ks {z ks : Str} {ss : List Str} (h : kindsOf z = some ks) : ks.length ≤ sizeLine := by
  unfold kindsOf at h
  obtain ⟨p, hp, rfl⟩ := Option.map_eq_some_iff.mp h
  have := List.mem_of_find?_eq_some hp
  have e : kindTab.all (fun p => decide (p.2.length ≤ sizeLine)) = true := by decide +kernel
  exact of_decide_eq_true (List.all_eq_true.mp e p this)
theorem all_word {d : PyData} (h : singleB d = true) : ∃ z, wordB d = some z ∧ z ≠ Str.ofString "all" := by
  cases hw : wordB d with
  | none => rw [(word_none hw).2.1] at h; cases h
  | some z =>
    refine ⟨z, rfl, fun e => ?_⟩
    obtain ⟨r, rfl⟩ := word_shape hw
    have hf : formOf z = none := by rw [e]; decide +kernel
    simp only [singleB, hf] at h
    cases h
theorem change_all {cs : List PyData} : changeB (.tuple [.str (Str.ofString "all"), .tuple cs]) = allB (.tuple [.str (Str.ofString "all"), .tuple cs]) := by
  show (singleB _ || _) = _
  have hf : formOf (Str.ofString "all") = none := by decide +kernel
  rw [show singleB (.tuple [.str (Str.ofString "all"), .tuple cs]) = false by simp only [singleB, hf], Bool.false_or]
theorem single_all {r : List PyData} : singleB (.tuple (.str (Str.ofString "all") :: r)) = false := by
  have hf : formOf (Str.ofString "all") = none := by decide +kernel
  simp only [singleB, hf]
/-- what stays of the things that are no single changes -/
theorem keep_iff {d : PyData} : (changeB d && !decide (wordB d = some (Str.ofString "all"))) = singleB d := by
  cases hs : singleB d with
  | true =>
    obtain ⟨z, hw, ne⟩ := all_word hs
    rw [show changeB d = (singleB d || allB d) from rfl, hs, hw, decide_eq_false (fun e => ne (Option.some.inj e))]
    rfl
  | false =>
    rw [show changeB d = (singleB d || allB d) from rfl, hs, Bool.false_or]
    cases hw : wordB d with
    | none => rw [(word_none hw).2.2]; rfl
    | some z =>
      by_cases e : z = Str.ofString "all"
      · rw [decide_eq_true (by rw [e]), Bool.not_true, Bool.and_false]
      · obtain ⟨r, rfl⟩ := word_shape hw
        rw [all_other e, Bool.false_and]
theorem filt_empty {α : Type} (f : α → Bool) (g : α → PyData) : ∀ xs : List α, (xs.filterMap fun x => if f x = true then none else some (g x)).isEmpty = (xs.map f).all id
  | [] => rfl
  | x :: xs => by
    cases h : f x with
    | true => simp [List.filterMap_cons, h]; simpa using filt_empty f g xs
    | false => simp [List.filterMap_cons, h]
theorem filt_emptyN (f : Nat → Bool) : ∀ xs : List Nat, (xs.filterMap fun x => if f x = true then none else some x).isEmpty = (xs.map f).all id
  | [] => rfl
  | x :: xs => by
    cases h : f x with
    | true => simp [List.filterMap_cons, h]; simpa using filt_emptyN f xs
    | false => simp [List.filterMap_cons, h]
theorem dp_ints {K : PySem.W.Frag} {H : Hp} : ∀ xs : List Nat, DpAll K H (xs.map fun i : Nat => V.int (i : Int)) (xs.map fun i : Nat => PyData.int (i : Int))
  | [] => .nil
  | x :: xs => .cons (.int _) (dp_ints xs)
def spR (K : PySem.W.Frag) : Nat → Sp
  | 0 => fun _ _ _ _ => False
  | n + 1 => fun vs H Q _ => ∃ (x : V) (d : PyData), vs = [x] ∧ Th K H x d ∧ Ok d ∧ d.depth ≤ n ∧ ∀ H', Same H H' → Q (.bl (changeB d)) H'
section
variable {P : Program} {w : World} {K : PySem.W.Frag} {mg : Str → Option Value} {base : Heap} {a : Ad} {b : Bd} {c : Cd}
theorem dpFilter {H : Hp} (f : PyData → Bool) : ∀ {vs : List V} {ds : List PyData}, DpAll K H vs ds →
    ∃ us, DpAll K H us (ds.filterMap fun d => if f d = true then none else some d) ∧ True
  | _, _, .nil => ⟨[], .nil, True.intro⟩
  | _, _, .cons (d := d) a r => by
    obtain ⟨us, h, _⟩ := dpFilter f r
    cases e : f d with
    | true => exact ⟨us, by simpa [List.filterMap_cons, e] using h, True.intro⟩
    | false => exact ⟨_ :: us, by simpa [List.filterMap_cons, e] using DpAll.cons a h, True.intro⟩
/-- the pairs of the values of a tuple with what they are -/
theorem gives_tupP {H : Hp} {p : Addr} {vs : List V} {r : List PyData} (hb : SqT K H p vs) (al : DpAll K H vs r) :
    Hv.GivesR (Itt K p) H (vs.zip r) (fun y v _ => v = y.1 ∧ Dp K H v y.2) where
  go := fun i H' s lt => (gives_tup hb).go i H' s (by rw [List.length_zip] at lt; omega)
  yld := fun i H' x H'' s y lt => by
    obtain ⟨rfl, e⟩ := (gives_tup hb).yld i H' x H'' s y (by rw [List.length_zip] at lt; omega)
    obtain ⟨d, hd, dp⟩ := dpAll_get al e
    exact ⟨Same.refl _, (x, d), List.getElem?_zip_eq_some.mpr ⟨e, hd⟩, rfl, dp⟩
  stop := fun H' s => by
    have := (gives_tup hb).stop H' s
    rw [List.length_zip, ← dpAll_length al, Nat.min_self]
    exact this
theorem dp_zip {H : Hp} (f : PyData → Bool) : ∀ {vs : List V} {ds : List PyData}, DpAll K H vs ds →
    DpAll K H ((vs.zip ds).filterMap fun y => if f y.2 = true then none else some y.1) (ds.filterMap fun d => if f d = true then none else some d)
  | _, _, .nil => .nil
  | _, _, .cons (d := d) a r => by
    have h := dp_zip f r
    cases e : f d with
    | true => simpa [List.filterMap_cons, e] using h
    | false => simpa [List.filterMap_cons, e] using DpAll.cons a h
theorem filt_mem {f : PyData → Bool} {ds : List PyData} {d : PyData} (h : d ∈ ds.filterMap fun d => if f d = true then none else some d) : d ∈ ds := by
  obtain ⟨y, hy, e⟩ := List.mem_filterMap.mp h
  split at e
  · cases e
  · cases e; exact hy
theorem change_flat {d : PyData} (h : dTup d = false) : changeB d = false := by
  cases d with
  | tuple cs => cases h
  | _ => rfl
theorem change_word {d : PyData} (h : changeB d = true) : ∃ z, wordB d = some z := by
  cases hw : wordB d with
  | none => rw [show changeB d = (singleB d || allB d) from rfl, (word_none hw).2.1, (word_none hw).2.2] at h; cases h
  | some z => exact ⟨z, rfl⟩
theorem ok_lchange_step {n : Nat} {f : Addr} {fd f2 : FuncData} (F : Fun K "_law_is_change" "_law_is_change" s_lchange f fd) (T : Txt K mg a) (D : TxtD K mg a b) (L : TxtE K mg c) (ef : f = c.change)
    (G : Keeps P w K mg base CX0 (3 + n) f fd ["_law_thing"] (spR K n)) (g : Binds K fd ["_law_thing"] [])
    (G2 : Keeps P w K mg base CX0 3 c.part f2 ["_law_sign", "_law_thing"] (spLPart K)) (g2 : Binds K f2 ["_law_sign", "_law_thing"] []) :
    Keeps P w K mg base CX0 (3 + n + 1) f fd ["_law_thing"] (spR K (n + 1)) := by
  subst ef
  refine keeps0 F sc_lchange (fun vs H Q E h => ?_) (fun cdv A outer s H vs Q E hr calm h => ?_)
  · obtain ⟨x, d, rfl, _⟩ := h
    rfl
  · obtain ⟨x, d, rfl, th, ok, dn, k⟩ := h
    have r3 : Room 3 _ := hr.mono (by omega)
    refine ⟨_, pss_cons (ps_if (pw_or (pt_not (pt_val (pe_callB call_isi (by rfl) T.b_isi (by decide +kernel) (pa_cons (pv 0) (pa_cons (pe_bltn (v := .ty "tuple") (by rfl) D.b_tuple (by decide +kernel) rfl) pa_nil)))))
        (pw_or (pt_cmpR (op_eqD (hu_of' hr)) (pv 0) (pe_tup pa_nil) (nomark _))
        (pw_or1 (pt_not (pt_val (pe_callB call_isi (by rfl) T.b_isi (by decide +kernel) (pa_cons (pe_ix ix_tup (pv 0) pe_int (fun _ _ => rfl)) (pa_cons (pe_bltn (v := .ty "str") (by rfl) T.b_str (by decide +kernel) rfl) pa_nil)))))))).pt (pss_one (ps_ret pe_bl)) pss_nil)
      (pss_cons (ps_set (i := 1) sc_lchange.nd rfl (Or.inl rfl) (pe_disp (pps_cons pe_str pe_str (pps_cons pe_str pe_str (pps_cons pe_str pe_str (pps_cons pe_str pe_str (pps_cons pe_str pe_str (pps_cons pe_str pe_str pps_nil)))))) (by rfl) (by rfl) (fun z => by cases z) (by decide)))
      (pss_cons (ps_asg pe_str (pg_sub (pv 1) pe_str (set_dict (hu_one hr))))
      (pss_cons (ps_asg pe_str (pg_sub (pv 1) pe_str (set_dict (hu_one hr))))
      (pss_cons (ps_if (pt_cmpR op_eq (pe_ix ix_tup (pv 0) pe_int (fun _ _ => rfl)) pe_str (nomark _))
        (pss_cons (ps_if (pw_or (pt_cmpR op_ne (pe_callB call_len_seq (by rfl) T.b_len PySem.boot_len (pa_cons (pv 0) pa_nil)) pe_int (nomark _))
            (pw_or (pt_not (pt_val (pe_callB call_isi (by rfl) T.b_isi (by decide +kernel) (pa_cons (pe_ix ix_tup (pv 0) pe_int (fun _ _ => rfl)) (pa_cons (pe_bltn (v := .ty "tuple") (by rfl) D.b_tuple (by decide +kernel) rfl) pa_nil)))))
            (pw_or1 (pt_not (pt_chain op_le op_le pe_int (pe_callB call_len_seq (by rfl) T.b_len PySem.boot_len (pa_cons (pe_ix ix_tup (pv 0) pe_int (fun _ _ => rfl)) pa_nil)) pe_int))))).pt (pss_one (ps_ret pe_bl)) pss_nil)
        (pss_one (ps_ret (pe_cmpR (op_eqD (hu_of' hr)) (pe_lc (own := [("_law_one", 3)]) (g := gName 3) rfl sc_lchange.nd (pi_tup (pe_ix ix_tup (pv 0) pe_int (fun _ _ => rfl))) (blkOk_by (N := ["_law_thing", "_law_kinds", "_law_signs", "_law_one", "_law_k"]) (sc := defScope s_lchange) (by decide +kernel))
          (fun _ _ _ _ _ => pg_name (i := 3) sc_lchange.nd rfl (Or.inl rfl)) (fun _ _ _ _ _ => pts_one (PW.pt (pw_or (pt_not (pt_val (pe_v (callR_fn G hr calm g .nil pass0) (by rfl) L.g_change L.k_change (pa_cons (pv 3) pa_nil)))) (pw_or1 (pt_cmpR op_eq (pe_ix (r := rIxT K) ix_tup (pv 3) pe_int (fun _ _ => rfl)) pe_str (nomark _)))))) (fun _ _ _ _ _ => pv 3)) (pe_lst pa_nil) (nomark _))))) pss_nil)
      (pss_cons (ps_set (i := 2) sc_lchange.nd rfl (Or.inr rfl) (pe_dget2 (hu_one hr) (pv 1) (pe_ix ix_tup (pv 0) pe_int (fun _ _ => rfl)) pe_non ⟨by rfl, by rfl, by rfl, by rfl⟩))
      (pss_cons (ps_if (pw_or (pt_cmpR op_isN (pv 2) pe_non (nomark _))
          (pw_or1 (pt_cmpR op_ne (pe_callB call_len_str (by rfl) T.b_len PySem.boot_len (pa_cons (pv 2) pa_nil)) (pe_op op_sub (pe_callB call_len_seq (by rfl) T.b_len PySem.boot_len (pa_cons (pv 0) pa_nil)) pe_int) (nomark _)))).pt (pss_one (ps_ret pe_bl)) pss_nil)
      (pss_one (ps_ret (pe_cmpR (op_eqD (hu_of' hr)) (pe_lc (own := [("_law_k", 4)]) (g := gName 4) rfl sc_lchange.nd (pi_range1 (by rfl) L.b_range (pa_cons (pe_callB call_len_str (by rfl) T.b_len PySem.boot_len (pa_cons (pv 2) pa_nil)) pa_nil)) (blkOk_by (N := ["_law_thing", "_law_kinds", "_law_signs", "_law_one", "_law_k"]) (sc := defScope s_lchange) (by decide +kernel))
          (fun _ _ _ _ _ => pg_name (i := 4) sc_lchange.nd rfl (Or.inl rfl)) (fun _ _ _ _ _ => pts_one (pt_not (pt_val (pe_v (callR_fn G2 r3 calm g2 .nil pass0) (by rfl) L.g_part L.k_part (pa_cons (pe_ix ix_str (pv 2) (pv 4) (fun _ _ => rfl)) (pa_cons (pe_ix (r := rIxT K) ix_tup (pv 0) (pe_op op_add pe_int (pv 4)) (fun _ _ => rfl)) pa_nil)))))) (fun _ _ _ _ _ => pv 4)) (pe_lst pa_nil) (nomark _)))))))))), ?_⟩
    refine ⟨_, rfl, x, .ty "tuple", _, _, _, rfl, .ty _, th.ty, kit_ty (kit_tup d), _, rfl, ?_⟩
    cases hd : dTup d with
    | false =>
      have q := k H (Same.refl H)
      rw [change_flat hd] at q
      exact q
    | true =>
      refine iteF ?_
      cases d with
      | tuple ds =>
        obtain ⟨p, xs, rfl, sq, al⟩ := th_tup th
        have okt := ok.good (fun e => nomatch e)
        have dep := ok.deep
        refine ⟨_, rfl, (by show 0 ≤ sizeLine; decide), fun p0 n0 => ?_⟩
        generalize hG : upd _ p0 _ = H1
        obtain ⟨m1, a0⟩ := newG hG n0
        clear hG
        have sq1 := same_tup m1 sq
        have al1 := same_dpAll m1 _ _ al
        refine ⟨.tuple ds, .tuple [], .tup sq1 al1, .tup (.inl (.inl a0)) .nil, good_shaped okt (by omega), good_shaped (by decide +kernel) (by decide +kernel), _, rfl, ?_⟩
        cases al1 with
        | nil =>
          have q := k _ m1
          exact q
        | @cons v vs e r a1 a2 =>
          rw [show PyData.eqv (.tuple (e :: r)) (.tuple []) = false by simp only [PyData.eqv, PyData.eqvAll]]
          refine iteF ⟨_, rfl, p, _, 0, v, rfl, rfl, sq1, atI_nat (by rfl), v, .ty "str", _, _, _, rfl, .ty _, (Th.d a1).ty, kit_ty (kit_str e), _, rfl, ?_⟩
          have q := k _ m1
          cases e with
          | str z =>
            refine iteF ?_
            cases a1
            clear q
            refine fun pd nd => ⟨upd_same, kv6, rfl, by decide, ?_⟩
            have g2 : Same H1 (upd (upd H1 pd (.dK [])) pd (.dK (mergeK [] kv6))) := same_put (same_new nd) nd
            generalize hG : upd (upd H1 pd (.dK [])) pd (.dK (mergeK [] kv6)) = H2 at g2
            have at2 : H2 pd = some (.dK (mergeK [] kv6)) := by rw [← hG]; exact upd_same
            clear hG
            refine ⟨_, rfl, pd, _, rfl, .inl ⟨_, .inr "exchange", at2, rfl, kv_len6, rfl⟩, ?_⟩
            have g3 := same_put (o := .dK (putK (mergeK [] kv6) (.inr "exchange") (V.str "nana"))) g2 nd
            generalize hG : upd H2 pd (.dK (putK (mergeK [] kv6) (.inr "exchange") (V.str "nana"))) = H3 at g3
            have at3 : H3 pd = some (.dK (putK (mergeK [] kv6) (.inr "exchange") (V.str "nana"))) := by rw [← hG]; exact upd_same
            clear hG
            refine ⟨_, rfl, pd, _, rfl, .inl ⟨_, .inr "mark", at3, rfl, kv_len7, rfl⟩, ?_⟩
            have g4 := same_put (o := .dK (putK (putK (mergeK [] kv6) (.inr "exchange") (V.str "nana")) (.inr "mark") (V.str "nk"))) g3 nd
            generalize hG : upd H3 pd (.dK (putK (putK (mergeK [] kv6) (.inr "exchange") (V.str "nana")) (.inr "mark") (V.str "nk"))) = H4 at g4
            have at4 : H4 pd = some (.dK (tabKV kindTab)) := by rw [← hG, ← kv_all]; exact upd_same
            clear hG at2 at3 g2 g3
            have m4 := m1.trans g4
            have sq4 := same_tup g4 sq1
            have al4 := same_dpAll g4 _ _ a2
            have lx := dpAll_length al4
            refine ⟨_, rfl, p, _, 0, .str z, rfl, rfl, sq4, atI_nat (by rfl), rfl, _, rfl, ?_⟩
            rw [str_eqV]
            have q := k _ m4
            refine ite2 (fun h1 => ?_) (fun h1 => ?_)
            · have h1' := of_decide_eq_true h1
              subst h1'
              refine ⟨_, rfl, p, _, rfl, .inr sq4, rfl, _, rfl, ?_⟩
              rw [show (2 : Int) = ((2 : Nat) : Int) from rfl, len_eq, List.length_cons]
              refine ite2 (fun h2 => ?_) (fun h2 => ?_)
              · have h2' : vs.length + 1 ≠ 2 := by simpa using h2
                rw [show changeB (.tuple (.str (Str.ofString "all") :: r)) = (singleB _ || allB _) from rfl, single_all, all_many (by rw [lx] at h2'; omega)] at q
                exact q
              · have h2' : vs.length + 1 = 2 := by simpa using h2
                cases al4 with
                | nil => simp at h2'
                | @cons v2 vs2 e2 es2 a3 a4 =>
                  cases a4 with
                  | cons _ _ => simp at h2'
                  | nil =>
                    refine ⟨_, rfl, p, _, 1, v2, rfl, rfl, sq4, atI_nat (by rfl), v2, .ty "tuple", _, _, _, rfl, .ty _, (Th.d a3).ty, kit_ty (kit_tup e2), _, rfl, ?_⟩
                    have oke : Ok e2 := ok.item (List.mem_cons_of_mem _ (List.mem_cons_self ..))
                    cases hd2 : dTup e2 with
                    | false =>
                      rw [show changeB (.tuple [.str (Str.ofString "all"), e2]) = (singleB _ || allB _) from rfl, single_all, all_flat hd2] at q
                      exact q
                    | true =>
                      refine iteF ?_
                      cases e2 with
                      | tuple cs =>
                        obtain ⟨p2, ys, rfl, sq2, al2⟩ := th_tup (Th.d a3)
                        have ly := dpAll_length al2
                        rw [change_all, all_of] at k
                        have q := k _ m4
                        refine ⟨_, rfl, p, _, 1, .ref p2, rfl, rfl, sq4, atI_nat (by rfl), p2, ys, rfl, .inr sq2, _, _, rfl, rfl, _, rfl, ?_⟩
                        refine ite2 (fun h3 => ?_) (fun h3 => ?_)
                        · have h3' : 1 ≤ cs.length := by have := of_decide_eq_true h3; omega
                          refine ⟨_, _, rfl, rfl, _, rfl, ?_⟩
                          refine ite2 (fun h4 => ?_) (fun h4 => ?_)
                          · have h4' : ¬ cs.length ≤ 200 := fun e => by
                              rw [decide_eq_true (by omega : ((ys.length : Nat) : Int) ≤ 200)] at h4
                              cases h4
                            rw [decide_eq_false h4', Bool.and_false, Bool.false_and] at q
                            exact q
                          · have h4' : cs.length ≤ 200 := by
                              refine Classical.byContradiction fun e => h4 ?_
                              rw [decide_eq_false (by omega : ¬ ((ys.length : Nat) : Int) ≤ 200)]
                              rfl
                            rw [decide_eq_true h3', decide_eq_true h4', Bool.true_and, Bool.true_and] at k
                            have dcs : PyData.depthAll cs + 2 ≤ n := by
                              simp only [PyData.depth, PyData.depthAll] at dn
                              omega
                            refine ⟨_, rfl, p, _, 1, .ref p2, rfl, rfl, sq4, atI_nat (by rfl), p2, rfl, ⟨_, sq2⟩, fun Dd nD => ?_⟩
                            refine lc_rel (f := fun y : V × PyData => if singleB y.2 = true then none else some y.1) (gives_tupP sq2 al2) nD (by rw [List.length_zip, ly, Nat.min_self]; exact Nat.le_trans h4' (by decide)) (fun y u H' Post mem hR sm2 y1 y2 => ?_) fun H' sm2 at_D => ?_
                            · obtain ⟨u', d'⟩ := y
                              obtain ⟨rfl, dp⟩ := hR
                              have md := (List.of_mem_zip mem).2
                              obtain ⟨m, rfl⟩ : ∃ m, n = m + 1 := ⟨n - 1, by omega⟩
                              have dp' := same_dp sm2 _ _ dp
                              have dd : d'.depth ≤ m := by have := depth_mem md; omega
                              refine ⟨rfl, _, rfl, u, d', rfl, .d dp', oke.item md, dd, fun H5 m5 => ⟨_, rfl, ?_⟩⟩
                              have ki := keep_iff (d := d')
                              cases hc : changeB d' with
                              | false =>
                                rw [hc, Bool.false_and] at ki
                                exact ⟨_, rfl, y1 _ H5 (by show (if singleB d' = true then none else some u) = some u; rw [← ki]; rfl) m5⟩
                              | true =>
                                rw [hc, Bool.true_and] at ki
                                obtain ⟨z', hw⟩ := change_word hc
                                obtain ⟨r', rfl⟩ := word_shape hw
                                obtain ⟨p', xs', rfl, sq', al'⟩ := th_tup (Th.d (same_dp m5 _ _ dp'))
                                cases al' with
                                | @cons v' vs' _ _ a1' a2' =>
                                  cases a1'
                                  refine iteF ⟨_, rfl, p', _, 0, .str z', rfl, rfl, sq', atI_nat (by rfl), rfl, _, rfl, ?_⟩
                                  rw [str_eqV]
                                  rw [hw, show decide (some z' = some (Str.ofString "all")) = decide (z' = Str.ofString "all") from decide_eq_decide.mpr ⟨fun h => Option.some.inj h, fun h => by rw [h]⟩] at ki
                                  cases hz : decide (z' = Str.ofString "all") with
                                  | true =>
                                    rw [hz] at ki
                                    exact ⟨_, rfl, y1 _ H5 (by show (if singleB _ = true then none else some (V.ref p')) = some (V.ref p'); rw [← ki]; rfl) m5⟩
                                  | false =>
                                    rw [hz] at ki
                                    exact y2 H5 (by show (if singleB _ = true then none else some (V.ref p')) = none; rw [← ki]; rfl) m5
                            · refine ⟨(by show 0 ≤ sizeLine; decide), fun p5 n5 => ?_⟩
                              have m5 := same_new (o := .lst []) n5
                              have oc := oke.good (fun e => nomatch e)
                              simp only [Hv.good] at oc
                              have dpz := dp_zip singleB (same_dpAll (sm2.trans m5) _ _ al2)
                              refine eq_nilD (SqL.of (m5 _ _ at_D)) dpz (SqL.of upd_same) ?_ ?_ ?_
                              · simp only [Hv.good]
                                exact (goodAll_iff _).mpr fun y hy => (goodAll_iff _).mp oc y (filt_mem hy)
                              · simp only [PyData.depth]
                                have e1 := depthAll_le (cs.filterMap fun d => if singleB d = true then none else some d) _ fun y hy => depth_mem (filt_mem hy)
                                have e2 := oke.deep
                                simp only [PyData.depth] at e2
                                omega
                              · have q2 := k _ ((m4.trans sm2).trans m5)
                                rw [← filt_empty singleB id cs] at q2
                                exact q2
                        · have h3' : ¬ 1 ≤ cs.length := fun e => h3 (decide_eq_true (by omega))
                          refine ⟨_, rfl, iteT ?_⟩
                          rw [decide_eq_false h3', Bool.false_and, Bool.false_and] at q
                          exact q
                      | _ => cases hd2
            · have nal : z ≠ Str.ofString "all" := fun e => h1 (decide_eq_true e)
              have un : changeB (.tuple (.str z :: r)) = singleB (.tuple (.str z :: r)) := by
                show (singleB _ || allB _) = _
                rw [all_other nal, Bool.or_false]
              rw [un] at k
              refine ⟨_, rfl, pd, rfl, .inl ⟨_, .inl at4⟩, _, rfl, p, _, 0, .str z, rfl, rfl, sq4, atI_nat (by rfl), valV (tabKV kindTab) (.inr z), DGet.k (k := .inr z) at4, ?_⟩
              rw [val_tab, show ((kindTab.find? fun p => decide (p.1 = z)).map (·.2)) = kindsOf z from rfl]
              rcases kinds_forms z with ⟨hk, hf⟩ | ⟨ks, ss, hk, hf, fit⟩
              · rw [hk]
                have q := k _ m4
                rw [show singleB (.tuple (.str z :: r)) = false by simp only [singleB, hf]] at q
                exact ⟨_, rfl, rfl, _, rfl, q⟩
              · rw [hk]
                have uns : singleB (.tuple (.str z :: r)) = (decide (r.length = ss.length) && ((ss.zip r).map fun p => partB p.1 p.2).all id) := by simp only [singleB, hf]
                rw [uns] at k
                have q := k _ m4
                unfold fitsKF at fit
                simp only [Bool.and_eq_true, decide_eq_true_iff, List.all_eq_true] at fit
                obtain ⟨⟨lk, l5⟩, fit⟩ := fit
                have lks : ks.length = ss.length := by rw [← lk]; simp [Str.length]
                refine ⟨_, rfl, rfl, _, rfl, ?_⟩
                refine iteF ⟨_, rfl, ks, rfl, fits_ks (ss := ss) hk, _, rfl, p, _, rfl, .inr sq4, _, _, rfl, rfl, rfl, _, rfl, ?_⟩
                have e : decide (V.int ((ks.length : Nat) : Int) = V.int (((V.str z :: vs : List V).length : Int) - 1)) = decide (r.length = ss.length) := decide_eq_decide.mpr ⟨fun h => by
                    injection h with h
                    rw [List.length_cons, lks, lx] at h
                    omega, fun h => by
                    rw [List.length_cons, lks, lx, h]
                    congr 1
                    omega⟩
                rw [e]
                refine ite2 (fun h2 => ?_) (fun h2 => ?_)
                · have h2' : decide (r.length = ss.length) = false := by simpa using h2
                  rw [h2', Bool.false_and] at q
                  exact q
                · have h2' : r.length = ss.length := by simpa using h2
                  rw [decide_eq_true h2', Bool.true_and] at k
                  refine ⟨_, rfl, ks, rfl, fits_ks (ss := ss) hk, _, rfl, (by omega), (by omega), fun Dd nD => ?_⟩
                  rw [show ((ks.length : Nat) : Int).toNat = ks.length from rfl]
                  let g : Nat → Bool := fun i => partB (ss.getD i default) (r.getD i .none)
                  refine lc_rel (f := fun i : Nat => if g i = true then none else some (.int (i : Int))) gives_rngD nD (by rw [List.length_range, lks]; exact Nat.le_trans l5 (by decide)) (fun i u H' Post mem hR sm2 y1 y2 => ?_) fun H' sm2 at_D => ?_
                  · subst hR
                    have li : i < ks.length := List.mem_range.mp mem
                    have ls : i < ss.length := by omega
                    have lr : i < r.length := by omega
                    have lc : i < ks.cps.toList.length := by omega
                    obtain ⟨v', hv'⟩ : ∃ v', vs[i]? = some v' := ⟨vs[i]'(by omega), List.getElem?_eq_getElem (by omega)⟩
                    obtain ⟨d', hd', dp'⟩ := dpAll_get al4 hv'
                    have sq' := same_tup sm2 sq4
                    have hc : ks.cps.toList[i]? = some ks.cps.toList[i] := List.getElem?_eq_getElem lc
                    have hs : ss[i]? = some ss[i] := List.getElem?_eq_getElem ls
                    have pr := fit (ks.cps.toList[i], ss[i]) (List.mem_of_getElem? (List.getElem?_zip_eq_some.mpr ⟨hc, hs⟩ : (ks.cps.toList.zip ss)[i]? = some (ks.cps.toList[i], ss[i])))
                    refine ⟨rfl, _, rfl, _, rfl, ks, (i : Int), _, rfl, rfl, fits_ks (ss := ss) hk, atI_nat hc, _, rfl, _, rfl, _, _, rfl, rfl, p, _, 1 + (i : Int), v', rfl, rfl, sq', ?_, ?_⟩
                    · rw [show 1 + (i : Int) = ((i + 1 : Nat) : Int) by omega]
                      exact atI_nat (by rw [List.getElem?_cons_succ]; exact hv')
                    · refine ⟨_, v', d', rfl, .d (same_dp sm2 _ _ dp'), ok.item (List.mem_cons_of_mem _ (List.mem_of_getElem? hd')), fun H5 m5 => ⟨_, rfl, ?_⟩⟩
                      rw [pair_part pr]
                      have eg : g i = partB ss[i] d' := by
                        show partB (ss.getD i default) (r.getD i .none) = _
                        rw [List.getD_eq_getElem?_getD, List.getD_eq_getElem?_getD, hs, hd']
                        rfl
                      cases hb : partB ss[i] d' with
                      | true => exact y2 H5 (by show (if g i = true then none else some (V.int (i : Int))) = none; rw [eg, hb]; rfl) m5
                      | false => exact ⟨_, rfl, y1 _ H5 (by show (if g i = true then none else some (V.int (i : Int))) = some _; rw [eg, hb]; rfl) m5⟩
                  · refine ⟨(by show 0 ≤ sizeLine; decide), fun p5 n5 => ?_⟩
                    have m5 := same_new (o := .lst []) n5
                    have e1 : (List.range ks.length).filterMap (fun i : Nat => if g i = true then none else some (V.int (i : Int))) = ((List.range ks.length).filterMap fun i : Nat => if g i = true then none else some i).map fun i : Nat => V.int (i : Int) := by
                      induction List.range ks.length with
                      | nil => rfl
                      | cons x xs ih => cases hg : g x <;> simp [List.filterMap_cons, hg, ih]
                    rw [e1] at at_D
                    have hi : ∀ i ∈ ((List.range ks.length).filterMap fun i : Nat => if g i = true then none else some i), i < 10 := by
                      intro i hi
                      obtain ⟨y, hy, e⟩ := List.mem_filterMap.mp hi
                      have := List.mem_range.mp hy
                      split at e
                      · cases e
                      · cases e; omega
                    refine eq_nilD (ds := ((List.range ks.length).filterMap fun i : Nat => if g i = true then none else some i).map fun i : Nat => PyData.int (i : Int)) (SqL.of (m5 _ _ at_D)) (dp_ints _) (SqL.of upd_same) ?_ ?_ ?_
                    · simp only [Hv.good]
                      refine (goodAll_iff _).mpr fun y hy => ?_
                      obtain ⟨i, hi2, rfl⟩ := List.mem_map.mp hy
                      simp only [Hv.good]
                      exact okI_small i (hi i hi2)
                    · simp only [PyData.depth]
                      have e1 := depthAll_le (((List.range ks.length).filterMap fun i : Nat => if g i = true then none else some i).map fun i : Nat => PyData.int (i : Int)) 0 fun y hy => by
                        obtain ⟨i, hi2, rfl⟩ := List.mem_map.mp hy
                        simp only [PyData.depth]
                        omega
                      omega
                    · have q2 := k _ ((m4.trans sm2).trans m5)
                      have e2 : (((List.range ks.length).filterMap fun i : Nat => if g i = true then none else some i).map fun i : Nat => PyData.int (i : Int)).isEmpty = ((ss.zip r).map fun p => partB p.1 p.2).all id := by
                        rw [List.isEmpty_map]
                        rw [show ((List.range ks.length).filterMap fun i : Nat => if g i = true then none else some i).isEmpty = ((List.range ks.length).map g).all id from filt_emptyN g _]
                        rw [Bool.eq_iff_iff, List.all_eq_true, List.all_eq_true]
                        constructor
                        · intro h y hy
                          obtain ⟨⟨s', d'⟩, hm, rfl⟩ := List.mem_map.mp hy
                          obtain ⟨i, hi⟩ := List.getElem?_of_mem hm
                          obtain ⟨e3, e4⟩ := List.getElem?_zip_eq_some.mp hi
                          have lt : i < ks.length := by
                            have := (List.getElem?_eq_some_iff.mp e3).1
                            omega
                          have := h (g i) (List.mem_map.mpr ⟨i, List.mem_range.mpr lt, rfl⟩)
                          have eg : g i = partB s' d' := by
                            show partB (ss.getD i default) (r.getD i .none) = _
                            rw [List.getD_eq_getElem?_getD, List.getD_eq_getElem?_getD, e3, e4]
                            rfl
                          rw [eg] at this
                          exact this
                        · intro h y hy
                          obtain ⟨i, hi, rfl⟩ := List.mem_map.mp hy
                          have lt := List.mem_range.mp hi
                          have ls : i < ss.length := by omega
                          have lr : i < r.length := by omega
                          have := h (partB ss[i] r[i]) (List.mem_map.mpr ⟨(ss[i], r[i]), List.mem_of_getElem? (List.getElem?_zip_eq_some.mpr ⟨List.getElem?_eq_getElem ls, List.getElem?_eq_getElem lr⟩ : (ss.zip r)[i]? = _), rfl⟩)
                          have eg : g i = partB ss[i] r[i] := by
                            show partB (ss.getD i default) (r.getD i .none) = _
                            rw [List.getD_eq_getElem?_getD, List.getD_eq_getElem?_getD, List.getElem?_eq_getElem ls, List.getElem?_eq_getElem lr]
                            rfl
                          rw [eg]
                          exact this
                      rw [← e2] at q2
                      exact q2
          | _ => exact q
      | _ => cases hd
end
end K4
end

section
open PySem PySem.Spec PyProof.Rows L2 Hv
local macro_rules | `(tactic| walk_at "rd") => `(tactic| repeat (first
  | refine ⟨_, rfl, ?_⟩
  | refine ⟨_, _, rfl, rfl, ?_⟩
  | refine ⟨_, _, rfl, ?_⟩
  | refine And.intro (show (0 : Int) < _ by omega) ?_
  | refine And.intro (show CPow _ _ from ⟨by decide, by decide, by decide⟩) ?_))
namespace K4
theorem But.trans {p : Addr} {H H1 H2 : Hp} (a : But p H H1) (b : But p H1 H2) : But p H H2 := fun c o n e => b c o n (a c o n e)
theorem But.refl (p : Addr) (H : Hp) : But p H H := fun _ _ _ e => e
theorem But.of {p : Addr} {H H' : Hp} (s : Same H H') : But p H H' := fun c o _ e => s c o e
theorem Pool.same {H H' : Hp} {p : Addr} (s : Same H H') (h : Pool H p) : Pool H' p := let ⟨a, b, c, e, r⟩ := h; ⟨a, b, c, s _ _ e, r⟩
theorem same_but {p : Addr} {H H1 H2 : Hp} (s : Same H H1) (n : H p = none) (b : But p H1 H2) : Same H H2 := fun c o e =>
  b c o (fun z => by rw [z, n] at e; cases e) (s c o e)
theorem but_put {p q : Addr} {H H' : Hp} {o : HO} (s : But p H H') (h : H q = none) : But p H (upd H' q o) := fun b u n e => by
  rw [upd_ne (ne_of_none e h)]; exact s b u n e
theorem Pool.ne {H : Hp} {p q : Addr} (h : Pool H p) (n : H q = none) : q ≠ p := by
  rintro rfl
  obtain ⟨a, b, c, e, _⟩ := h
  rw [n] at e; cases e
theorem Pool.put {H : Hp} {p q : Addr} {o : HO} (h : Pool H p) (n : q ≠ p) : Pool (upd H q o) p := by
  obtain ⟨a, b, c, e, r⟩ := h
  exact ⟨a, b, c, by rw [upd_ne (Ne.symm n)]; exact e, r⟩
/-- the heap without p -/
def Hx (p : Addr) (H : Hp) : Hp := fun b => if b = p then none else H b
theorem hx_at {p b : Addr} {H : Hp} {o : HO} (n : b ≠ p) (e : H b = some o) : Hx p H b = some o := by
  unfold Hx; rw [if_neg n]; exact e
theorem hx_but {p : Addr} {H H' : Hp} (h : But p H H') : Same (Hx p H) (Hx p H') := fun b o e => by
  unfold Hx at e
  split at e
  · cases e
  · next n => exact hx_at n (h b o n e)
theorem hx_sub (p : Addr) (H : Hp) : Same (Hx p H) H := fun b o e => by
  unfold Hx at e
  split at e
  · cases e
  · exact e
theorem hx_sqt {K : PySem.W.Frag} {p q : Addr} {H : Hp} {xs : List V} (h : Pool H p) (s : SqT K H q xs) : SqT K (Hx p H) q xs := by
  obtain ⟨a, b, c, e, _⟩ := h
  rcases s with (s | ⟨o, s⟩) | s
  · exact .inl (.inl (hx_at (fun z => by rw [z, e] at s; cases s) s))
  · exact .inl (.inr ⟨o, hx_at (fun z => by rw [z, e] at s; cases s) s⟩)
  · exact .inr s
def okG (d : PyData) : Bool := good d && decide (d.depth ≤ 3) && decide (d.bulk ≤ 100) && (match d with
  | .tuple (.str _ :: r) => decide (1 ≤ r.length) && decide (r.length ≤ 4)
  | _ => false)
def goods (i : Int) (y : Str) (ss : List Str) (m : Int) : List PyData :=
  [.tuple [.str "make", .int i, .str y, .int 3, .tuple (ss.map .str)], .tuple [.str "write", .int i, .int 0, .str "x\n~"], .tuple [.str "cut", .int i, .int 5], .tuple [.str "strike", .int 2, .str y],
    .tuple [.str "name", .int 2, .str y, .int i], .tuple [.str "move", .int 0, .str y, .int i, .str "b"], .tuple [.str "exchange", .int 0, .str y, .int 1, .str "b"], .tuple [.str "mark", .int i, .int m]]
def gNums : List Int := [0, 1, 7, 10 ^ 6]
def gNames : List Str := ["a", "eightabc"]
def gWhats : List (List Str) := [["folder"], ["file"], ["link", "/a/.."], ["link", "."]]
def gMarks : List Int := [0, 999]
theorem goods_ok : ∀ i ∈ gNums, ∀ y ∈ gNames, ∀ ss ∈ gWhats, ∀ m ∈ gMarks, ∀ d ∈ goods i y ss m, okG d = true := by
  have e : (gNums.all fun i => gNames.all fun y => gWhats.all fun ss => gMarks.all fun m => (goods i y ss m).all okG) = true := by decide +kernel
  intro i hi y hy ss hs m hm d hd
  exact List.all_eq_true.mp (List.all_eq_true.mp (List.all_eq_true.mp (List.all_eq_true.mp (List.all_eq_true.mp e i hi) y hy) ss hs) m hm) d hd
abbrev s_good : Stmt := top 36
theorem sc_good : FnScope ["_law_state", "_law_number", "_law_name", "_law_what", "_law_some"] ["_law_state"] (defScope s_good) :=
  ⟨rfl, rfl, rfl, by decide +kernel, rfl, by decide +kernel, by decide +kernel⟩
def spGood (K : PySem.W.Frag) : Sp := fun vs H Q _ => ∃ (p : Addr), vs = [.ref p] ∧ Pool H p ∧
  ∀ (l : Addr) (xs : List V) (ds : List PyData) H', But p H H' → Pool H' p → l ≠ p → H' l = some (.lst xs) → DpAll K (Hx p H') xs ds → ds.length ≤ 8 → (∀ d ∈ ds, okG d = true) → Q (.ref l) H'
section
variable {P : Program} {w : World} {K : PySem.W.Frag} {mg : Str → Option Value} {base : Heap} {a : Ad} {b : Bd} {c : Cd}
theorem ok_lchange {f : Addr} {fd f2 : FuncData} (F : Fun K "_law_is_change" "_law_is_change" s_lchange f fd) (T : Txt K mg a) (D : TxtD K mg a b) (L : TxtE K mg c) (ef : f = c.change)
    (g : Binds K fd ["_law_thing"] []) (G2 : Keeps P w K mg base CX0 3 c.part f2 ["_law_sign", "_law_thing"] (spLPart K)) (g2 : Binds K f2 ["_law_sign", "_law_thing"] []) :
    ∀ n, Keeps P w K mg base CX0 (3 + n) f fd ["_law_thing"] (spR K n)
  | 0 => ⟨fun _ _ _ _ h => h.elim, fun _ _ _ _ _ _ _ _ _ _ _ _ _ _ h => h.elim⟩
  | n + 1 => ok_lchange_step F T D L ef (ok_lchange F T D L ef g G2 g2 n) g G2 g2
theorem ok_good {f : Addr} {fd f1 : FuncData} (F : Fun K "_law_good" "_law_good" s_good f fd) (L : TxtE K mg c)
    (G : Keeps P w K mg base CX0 1 c.take f1 ["_law_state", "_law_many"] spTake) (g : Binds K f1 ["_law_state", "_law_many"] []) : Keeps P w K mg base CX0 2 f fd ["_law_state"] (spGood K) := by
  refine keeps0 F sc_good (fun vs H Q E h => ?_) (fun cdv A outer s H vs Q E hr calm h => ?_)
  · obtain ⟨p, rfl, _⟩ := h
    rfl
  · obtain ⟨p, rfl, pool, k⟩ := h
    refine ⟨_, pss_cons (ps_set (i := 1) sc_good.nd rfl (Or.inl rfl) (pe_ix ix_list (pe_lst (pa_cons pe_int (pa_cons pe_int (pa_cons pe_int (pa_cons (pe_op op_pow pe_int pe_int) pa_nil)))))
        (pe_v (callR_fn G hr calm g .nil pass0) (by rfl) L.g_take L.k_take (pa_cons (pv 0) (pa_cons pe_int pa_nil))) (fun _ _ => rfl)))
      (pss_cons (ps_set (i := 2) sc_good.nd rfl (Or.inl rfl) (pe_ix ix_list (pe_lst (pa_cons pe_str (pa_cons pe_str pa_nil)))
        (pe_v (callR_fn G hr calm g .nil pass0) (by rfl) L.g_take L.k_take (pa_cons (pv 0) (pa_cons pe_int pa_nil))) (fun _ _ => rfl)))
      (pss_cons (ps_set (i := 3) sc_good.nd rfl (Or.inl rfl) (pe_ix ix_list (pe_lst (pa_cons (pe_tup (pa_cons pe_str pa_nil)) (pa_cons (pe_tup (pa_cons pe_str pa_nil)) (pa_cons (pe_tup (pa_cons pe_str (pa_cons pe_str pa_nil))) (pa_cons (pe_tup (pa_cons pe_str (pa_cons pe_str pa_nil))) pa_nil)))))
        (pe_v (callR_fn G hr calm g .nil pass0) (by rfl) L.g_take L.k_take (pa_cons (pv 0) (pa_cons pe_int pa_nil))) (fun _ _ => rfl)))
      (pss_cons (ps_set (i := 4) sc_good.nd rfl (Or.inl rfl) (pe_lst (pa_cons (pe_tup (pa_cons pe_str (pa_cons (pv 1) (pa_cons (pv 2) (pa_cons pe_int (pa_cons (pv 3) pa_nil))))))
        (pa_cons (pe_tup (pa_cons pe_str (pa_cons (pv 1) (pa_cons pe_int (pa_cons pe_str pa_nil))))) (pa_cons (pe_tup (pa_cons pe_str (pa_cons (pv 1) (pa_cons pe_int pa_nil)))) pa_nil)))))
      (pss_cons (ps_expr (pe_bm PySem.F.plainAttrs_list PySem.F.slot_list_append PySem.F.type_list_append mt_append (pv 4) (pa_cons (pe_tup (pa_cons pe_str (pa_cons pe_int (pa_cons (pv 2) pa_nil)))) pa_nil)))
      (pss_cons (ps_set (i := 4) sc_good.nd rfl (Or.inl rfl) (pe_op op_cat (pv 4) (pe_lst (pa_cons (pe_tup (pa_cons pe_str (pa_cons pe_int (pa_cons (pv 2) (pa_cons (pv 1) pa_nil)))))
        (pa_cons (pe_tup (pa_cons pe_str (pa_cons pe_int (pa_cons (pv 2) (pa_cons (pv 1) (pa_cons pe_str pa_nil)))))) (pa_cons (pe_tup (pa_cons pe_str (pa_cons pe_int (pa_cons (pv 2) (pa_cons pe_int (pa_cons pe_str pa_nil)))))) pa_nil))))))
      (pss_one (ps_ret (pe_op op_cat (pv 4) (pe_lst (pa_cons (pe_tup (pa_cons pe_str (pa_cons (pv 1) (pa_cons (pe_ix ix_list (pe_lst (pa_cons pe_int (pa_cons pe_int pa_nil)))
        (pe_v (callR_fn G hr calm g .nil pass0) (by rfl) L.g_take L.k_take (pa_cons (pv 0) (pa_cons pe_int pa_nil))) (fun _ _ => rfl)) pa_nil)))) pa_nil)))))))))), ?_⟩
    -- the number
    walk_at "rd"
    refine ⟨(by show 4 ≤ sizeLine; decide), fun q1 z1 => ?_⟩
    generalize hG : upd _ q1 _ = H1
    obtain ⟨e1, a1⟩ := newG hG z1
    clear hG
    have n1 := pool.ne z1
    have pool1 := pool.same e1
    have b1 : But p H H1 := But.of e1
    refine ⟨_, rfl, p, 4, rfl, pool1, (by decide), (by decide), fun r H2 r0 r1 b2 pool2 => ?_⟩
    have a1' := b2 _ _ n1 a1
    have c2 := b1.trans b2
    obtain ⟨i, hi, at_i⟩ : ∃ i ∈ gNums, atI (gNums.map V.int) r = some (.int i) := by
      have : r = 0 ∨ r = 1 ∨ r = 2 ∨ r = 3 := by omega
      rcases this with rfl | rfl | rfl | rfl
      · exact ⟨0, by simp [gNums], atI_nat (by rfl)⟩
      · exact ⟨1, by simp [gNums], atI_nat (by rfl)⟩
      · exact ⟨7, by simp [gNums], atI_nat (by rfl)⟩
      · exact ⟨10 ^ 6, by simp [gNums], atI_nat (by rfl)⟩
    refine ⟨q1, _, r, .int i, rfl, rfl, SqL.of a1', at_i, ?_⟩
    -- the name
    refine ⟨(by show 2 ≤ sizeLine; decide), fun q2 z2 => ?_⟩
    generalize hG : upd _ q2 _ = H3
    obtain ⟨e3, a3⟩ := newG hG z2
    clear hG
    have n2 := pool2.ne z2
    have pool3 := pool2.same e3
    have c3 := c2.trans (But.of e3)
    refine ⟨_, rfl, p, 2, rfl, pool3, (by decide), (by decide), fun r H4 r0 r1 b4 pool4 => ?_⟩
    have a3' := b4 _ _ n2 a3
    have c4 := c3.trans b4
    obtain ⟨y, hy, at_y⟩ := item_strs (zs := gNames) r0 r1
    refine ⟨q2, _, r, .str y, rfl, rfl, SqL.of a3', at_y, ?_⟩
    -- the what
    refine ⟨(by show 1 ≤ sizeLine; decide), fun w1 y1 => ?_⟩
    generalize hG : upd _ w1 _ = G1
    obtain ⟨g1, x1⟩ := newG hG y1
    clear hG
    refine ⟨(by show 1 ≤ sizeLine; decide), fun w2 y2 => ?_⟩
    generalize hG : upd _ w2 _ = G2
    obtain ⟨g2, x2⟩ := newG hG y2
    clear hG
    refine ⟨(by show 2 ≤ sizeLine; decide), fun w3 y3 => ?_⟩
    generalize hG : upd _ w3 _ = G3
    obtain ⟨g3, x3⟩ := newG hG y3
    clear hG
    refine ⟨(by show 2 ≤ sizeLine; decide), fun w4 y4 => ?_⟩
    generalize hG : upd _ w4 _ = G4
    obtain ⟨g4, x4⟩ := newG hG y4
    clear hG
    refine ⟨(by show 4 ≤ sizeLine; decide), fun q5 y5 => ?_⟩
    generalize hG : upd _ q5 _ = G5
    obtain ⟨g5, x5⟩ := newG hG y5
    clear hG
    have g45 := (((g1.trans g2).trans g3).trans g4).trans g5
    have poolG := pool4.same g45
    have nw1 : w1 ≠ p := pool4.ne y1
    have nw2 : w2 ≠ p := (pool4.same g1).ne y2
    have nw3 : w3 ≠ p := (pool4.same (g1.trans g2)).ne y3
    have nw4 : w4 ≠ p := (pool4.same ((g1.trans g2).trans g3)).ne y4
    have nq5 : q5 ≠ p := (pool4.same (((g1.trans g2).trans g3).trans g4)).ne y5
    have c5 := c4.trans (But.of g45)
    refine ⟨_, rfl, p, 4, rfl, poolG, (by decide), (by decide), fun r H5 r0 r1 b5 pool5 => ?_⟩
    have c6 := c5.trans b5
    have x5' := b5 _ _ nq5 x5
    obtain ⟨wt, ss, hss, at_w, fw, nw⟩ : ∃ wt ss, ss ∈ gWhats ∧ atI [V.ref w1, V.ref w2, V.ref w3, V.ref w4] r = some (.ref wt) ∧ H5 wt = some (.tup (ss.map V.str)) ∧ wt ≠ p := by
      have : r = 0 ∨ r = 1 ∨ r = 2 ∨ r = 3 := by omega
      rcases this with rfl | rfl | rfl | rfl
      · exact ⟨w1, ["folder"], by simp [gWhats], atI_nat (by rfl), b5 _ _ nw1 (g5 _ _ (g4 _ _ (g3 _ _ (g2 _ _ x1)))), nw1⟩
      · exact ⟨w2, ["file"], by simp [gWhats], atI_nat (by rfl), b5 _ _ nw2 (g5 _ _ (g4 _ _ (g3 _ _ x2))), nw2⟩
      · exact ⟨w3, ["link", "/a/.."], by simp [gWhats], atI_nat (by rfl), b5 _ _ nw3 (g5 _ _ (g4 _ _ x3)), nw3⟩
      · exact ⟨w4, ["link", "."], by simp [gWhats], atI_nat (by rfl), b5 _ _ nw4 (g5 _ _ x4), nw4⟩
    refine ⟨q5, _, r, .ref wt, rfl, rfl, SqL.of x5', at_w, ?_⟩
    clear x1 x2 x3 x4 x5 x5' g1 g2 g3 g4 g5 g45 y1 y2 y3 y4 y5 a1 a1' a3 a3' b2 b4 b5 c2 c3 c4 c5 e1 e3 nw1 nw2 nw3 nw4 nq5 n1 n2 z1 z2 pool1 pool2 pool3 pool4 poolG b1 at_w at_y at_i
    refine ⟨_, rfl, _, rfl, _, rfl, ?_⟩
    refine ⟨(by show 5 ≤ sizeLine; decide), fun t1 z1 => ?_⟩
    generalize hG : upd _ t1 _ = G1
    obtain ⟨g1, x1⟩ := newG hG z1
    clear hG
    refine ⟨_, rfl, ?_⟩
    refine ⟨(by show 4 ≤ sizeLine; decide), fun t2 z2 => ?_⟩
    generalize hG : upd _ t2 _ = G2
    obtain ⟨g2, x2⟩ := newG hG z2
    clear hG
    refine ⟨_, rfl, ?_⟩
    refine ⟨(by show 3 ≤ sizeLine; decide), fun t3 z3 => ?_⟩
    generalize hG : upd _ t3 _ = G3
    obtain ⟨g3, x3⟩ := newG hG z3
    clear hG
    refine ⟨(by show 3 ≤ sizeLine; decide), fun l4 z4 => ?_⟩
    generalize hG : upd _ l4 _ = G4
    obtain ⟨g4, x4⟩ := newG hG z4
    clear hG
    have s4 := ((g1.trans g2).trans g3).trans g4
    have m1 : t1 ≠ p := pool5.ne z1
    have m2 : t2 ≠ p := (pool5.same g1).ne z2
    have m3 : t3 ≠ p := (pool5.same (g1.trans g2)).ne z3
    have m4 : l4 ≠ p := (pool5.same ((g1.trans g2).trans g3)).ne z4
    have v1 := g4 _ _ (g3 _ _ (g2 _ _ x1))
    have v2 := g4 _ _ (g3 _ _ x2)
    have v3 := g4 _ _ x3
    have nl : H5 l4 = none := ((g1.trans g2).trans g3).free z4
    have d1 : t1 ≠ l4 := ne_of_none (g3 _ _ (g2 _ _ x1)) z4
    have d2 : t2 ≠ l4 := ne_of_none (g3 _ _ x2) z4
    have d3 : t3 ≠ l4 := ne_of_none x3 z4
    have dw : wt ≠ l4 := ne_of_none fw nl
    refine ⟨_, rfl, .inl ⟨rfl, _, SqL.of x4⟩, _, rfl, ?_⟩
    refine ⟨(by show 3 ≤ sizeLine; decide), fun t4 z5 => ?_⟩
    generalize hG : upd _ t4 _ = G5
    obtain ⟨g5, x5⟩ := newG hG z5
    clear hG
    have m5 : t4 ≠ p := (pool5.same s4).ne z5
    have d4 : t4 ≠ l4 := Ne.symm (ne_of_none x4 z5)
    refine ⟨l4, _, _, rfl, rfl, g5 _ _ x4, (by show 3 < sizeLine; decide), ?_⟩
    have s5 := s4.trans g5
    have k6 : But p H5 (upd G5 l4 (.lst ([V.ref t1, V.ref t2, V.ref t3] ++ [V.ref t4]))) := but_put (But.of s5) nl
    have pool6 : Pool (upd G5 l4 (.lst ([V.ref t1, V.ref t2, V.ref t3] ++ [V.ref t4]))) p := (pool5.same s5).put m4
    have w1 : upd G5 l4 (.lst ([V.ref t1, V.ref t2, V.ref t3] ++ [V.ref t4])) t1 = _ := (upd_ne d1).trans (g5 _ _ v1)
    have w2 : upd G5 l4 (.lst ([V.ref t1, V.ref t2, V.ref t3] ++ [V.ref t4])) t2 = _ := (upd_ne d2).trans (g5 _ _ v2)
    have w3 : upd G5 l4 (.lst ([V.ref t1, V.ref t2, V.ref t3] ++ [V.ref t4])) t3 = _ := (upd_ne d3).trans (g5 _ _ v3)
    have w4 : upd G5 l4 (.lst ([V.ref t1, V.ref t2, V.ref t3] ++ [V.ref t4])) t4 = _ := (upd_ne d4).trans x5
    have wl : upd G5 l4 (.lst ([V.ref t1, V.ref t2, V.ref t3] ++ [V.ref t4])) l4 = _ := upd_same
    have fw6 := k6 _ _ nw fw
    generalize upd G5 l4 (.lst ([V.ref t1, V.ref t2, V.ref t3] ++ [V.ref t4])) = H6 at *
    clear x1 x2 x3 x4 x5 g1 g2 g3 g4 g5 s4 s5 v1 v2 v3 z1 z2 z3 z4 z5 d1 d2 d3 d4 dw nl fw
    refine ⟨_, rfl, _, rfl, _, rfl, ?_⟩
    refine ⟨(by show 4 ≤ sizeLine; decide), fun t5 z1 => ?_⟩
    generalize hG : upd _ t5 _ = G1
    obtain ⟨g1, x1⟩ := newG hG z1
    clear hG
    refine ⟨_, rfl, _, rfl, ?_⟩
    refine ⟨(by show 5 ≤ sizeLine; decide), fun t6 z2 => ?_⟩
    generalize hG : upd _ t6 _ = G2
    obtain ⟨g2, x2⟩ := newG hG z2
    clear hG
    refine ⟨_, rfl, ?_⟩
    refine ⟨(by show 5 ≤ sizeLine; decide), fun t7 z3 => ?_⟩
    generalize hG : upd _ t7 _ = G3
    obtain ⟨g3, x3⟩ := newG hG z3
    clear hG
    refine ⟨(by show 3 ≤ sizeLine; decide), fun l5 z4 => ?_⟩
    generalize hG : upd _ l5 _ = G4
    obtain ⟨g4, x4⟩ := newG hG z4
    clear hG
    refine ⟨l4, l5, _, _, rfl, rfl, g4 _ _ (g3 _ _ (g2 _ _ (g1 _ _ wl))), x4, (by show 4 + 3 ≤ sizeLine; decide), fun l6 z5 => ?_⟩
    generalize hG : upd _ l6 _ = G5
    obtain ⟨g5, x5⟩ := newG hG z5
    clear hG
    have s5 := (((g1.trans g2).trans g3).trans g4).trans g5
    have m6 : t5 ≠ p := pool6.ne z1
    have m7 : t6 ≠ p := (pool6.same g1).ne z2
    have m8 : t7 ≠ p := (pool6.same (g1.trans g2)).ne z3
    have m9 : l6 ≠ p := (pool6.same (((g1.trans g2).trans g3).trans g4)).ne z5
    have pool7 := pool6.same s5
    have w5 := g5 _ _ (g4 _ _ (g3 _ _ (g2 _ _ x1)))
    have w6 := g5 _ _ (g4 _ _ (g3 _ _ x2))
    have w7 := g5 _ _ (g4 _ _ x3)
    have c7 := (c6.trans k6).trans (But.of s5)
    have w1' := s5 _ _ w1
    have w2' := s5 _ _ w2
    have w3' := s5 _ _ w3
    have w4' := s5 _ _ w4
    have fw7 := s5 _ _ fw6
    clear x1 x2 x3 x4 g1 g2 g3 g4 g5 s5 z1 z2 z3 z4 z5 w1 w2 w3 w4 wl fw6 k6 c6 pool6
    refine ⟨_, rfl, _, rfl, (by show 2 ≤ sizeLine; decide), fun q8 z8 => ?_⟩
    generalize hG : upd _ q8 _ = G8
    obtain ⟨g8, x8⟩ := newG hG z8
    clear hG
    have n8 := pool7.ne z8
    have pool8 := pool7.same g8
    refine ⟨_, rfl, p, 2, rfl, pool8, (by decide), (by decide), fun r H9 r0 r1 b9 pool9 => ?_⟩
    have b79 : But p G5 H9 := (But.of g8).trans b9
    obtain ⟨m, hm, at_m⟩ : ∃ m ∈ gMarks, atI (gMarks.map V.int) r = some (.int m) := by
      have : r = 0 ∨ r = 1 := by omega
      rcases this with rfl | rfl
      · exact ⟨0, by simp [gMarks], atI_nat (by rfl)⟩
      · exact ⟨999, by simp [gMarks], atI_nat (by rfl)⟩
    refine ⟨q8, _, r, .int m, rfl, rfl, SqL.of (b9 _ _ n8 x8), at_m, ?_⟩
    refine ⟨(by show 3 ≤ sizeLine; decide), fun t8 z1 => ?_⟩
    generalize hG : upd _ t8 _ = G1
    obtain ⟨g1, x1⟩ := newG hG z1
    clear hG
    refine ⟨(by show 1 ≤ sizeLine; decide), fun l7 z2 => ?_⟩
    generalize hG : upd _ l7 _ = G2
    obtain ⟨g2, x2⟩ := newG hG z2
    clear hG
    refine ⟨l6, l7, _, _, rfl, rfl, g2 _ _ (g1 _ _ (b79 _ _ m9 x5)), x2, (by show 7 + 1 ≤ sizeLine; decide), fun l8 z3 => ?_⟩
    generalize hG : upd _ l8 _ = G3
    obtain ⟨g3, x3⟩ := newG hG z3
    clear hG
    have s3 := (g1.trans g2).trans g3
    have bt : But p G5 G3 := b79.trans (But.of s3)
    have n1 : t8 ≠ p := pool9.ne z1
    refine k l8 _ (goods i y ss m) G3 (c7.trans bt) (pool9.same s3) ((pool9.same (g1.trans g2)).ne z3) x3 ?_ (Nat.le_refl _) (goods_ok i hi y hy ss hss m hm)
    have dwh : Dp K (Hx p G3) (.ref wt) (.tuple (ss.map .str)) := .tup (.inl (.inl (hx_at nw (bt _ _ nw fw7)))) (dp_strs ss)
    refine .cons (.tup (.inl (.inl (hx_at m1 (bt _ _ m1 w1')))) (.cons (.str _) (.cons (.int _) (.cons (.str _) (.cons (.int _) (.cons dwh .nil)))))) ?_
    refine .cons (.tup (.inl (.inl (hx_at m2 (bt _ _ m2 w2')))) (.cons (.str _) (.cons (.int _) (.cons (.int _) (.cons (.str _) .nil))))) ?_
    refine .cons (.tup (.inl (.inl (hx_at m3 (bt _ _ m3 w3')))) (.cons (.str _) (.cons (.int _) (.cons (.int _) .nil)))) ?_
    refine .cons (.tup (.inl (.inl (hx_at m5 (bt _ _ m5 w4')))) (.cons (.str _) (.cons (.int _) (.cons (.str _) .nil)))) ?_
    refine .cons (.tup (.inl (.inl (hx_at m6 (bt _ _ m6 w5)))) (.cons (.str _) (.cons (.int _) (.cons (.str _) (.cons (.int _) .nil))))) ?_
    refine .cons (.tup (.inl (.inl (hx_at m7 (bt _ _ m7 w6)))) (.cons (.str _) (.cons (.int _) (.cons (.str _) (.cons (.int _) (.cons (.str _) .nil)))))) ?_
    refine .cons (.tup (.inl (.inl (hx_at m8 (bt _ _ m8 w7)))) (.cons (.str _) (.cons (.int _) (.cons (.str _) (.cons (.int _) (.cons (.str _) .nil)))))) ?_
    exact .cons (.tup (.inl (.inl (hx_at n1 (g3 _ _ (g2 _ _ x1))))) (.cons (.str _) (.cons (.int _) (.cons (.int _) .nil)))) .nil
end
end K4
end

section
open PySem PySem.Spec PyProof.Rows L2 Hv
local macro_rules | `(tactic| walk_at "rd") => `(tactic| repeat (first
  | refine ⟨_, rfl, ?_⟩
  | refine ⟨_, _, rfl, rfl, ?_⟩
  | refine ⟨_, _, rfl, ?_⟩
  | refine And.intro (show (0 : Int) < _ by omega) ?_
  | refine And.intro (show CPow _ _ from ⟨by decide, by decide, by decide⟩) ?_))
namespace Hv
/-- t + u, wherever it stands -/
theorem op_catU {X : Cx} : OpR X (binaryOp .Add) (fun x y H Q => ∃ (a b : Addr) (xs ys : List V), x = .ref a ∧ y = .ref b ∧ SqT X.K H a xs ∧ SqT X.K H b ys ∧ xs.length + ys.length ≤ sizeLine ∧
    ∀ p H', Same H H' → SqT X.K H' p (xs ++ ys) → Q (.ref p) H') := by
  intro pins s σ H x y v u Q I rx ry h
  obtain ⟨a, b, xs, ys, rfl, rfl, ha, hb, le, q⟩ := h
  refine op_catA pins s σ H _ _ v u Q I rx ry ⟨a, b, xs, ys, rfl, rfl, ha, hb, le, fun e => q b H (Same.refl H) (by rw [e]; exact hb), fun _ e => q a H (Same.refl H) (by rw [e, List.append_nil]; exact ha), fun _ _ p np => q p _ (same_new np) (.inl (.inl upd_same))⟩
theorem bulk_app : ∀ (a b : List PyData), PyData.bulkAll (a ++ b) = PyData.bulkAll a + PyData.bulkAll b
  | [], b => by simp only [List.nil_append, PyData.bulkAll]; omega
  | x :: a, b => by simp only [List.cons_append, PyData.bulkAll, bulk_app a b]; omega
theorem bulk_drop (n : Nat) : ∀ (a : List PyData), PyData.bulkAll (a.drop n) ≤ PyData.bulkAll a := by
  intro a
  have e := bulk_app (a.take n) (a.drop n)
  rw [List.take_append_drop] at e
  omega
theorem bulk_take (n : Nat) : ∀ (a : List PyData), PyData.bulkAll (a.take n) ≤ PyData.bulkAll a := by
  intro a
  have e := bulk_app (a.take n) (a.drop n)
  rw [List.take_append_drop] at e
  omega
/-- good, not deep, not big -/
structure Fine (k n : Nat) (d : PyData) : Prop where
  good : Hv.good d = true
  deep : d.depth ≤ k
  bulk : d.bulk ≤ n
structure Fines (k n : Nat) (ds : List PyData) : Prop where
  good : goodAll ds = true
  deep : PyData.depthAll ds ≤ k
  bulk : PyData.bulkAll ds ≤ n
theorem Fines.nil : Fines 0 0 [] := ⟨by simp only [goodAll], by simp only [PyData.depthAll]; omega, by simp only [PyData.bulkAll]; omega⟩
theorem Fines.cons {k n m : Nat} {d : PyData} {ds : List PyData} (a : Fine k n d) (b : Fines k m ds) : Fines k (n + 1 + m) (d :: ds) :=
  ⟨by simp only [goodAll, a.good, b.good, Bool.and_self], by have := a.deep; have := b.deep; simp only [PyData.depthAll]; omega, by have := a.bulk; have := b.bulk; simp only [PyData.bulkAll]; omega⟩
theorem Fines.up {k n k' n' : Nat} {ds : List PyData} (a : Fines k n ds) (h : k ≤ k') (g : n ≤ n') : Fines k' n' ds := ⟨a.good, Nat.le_trans a.deep h, Nat.le_trans a.bulk g⟩
theorem Fine.up {k n k' n' : Nat} {d : PyData} (a : Fine k n d) (h : k ≤ k') (g : n ≤ n') : Fine k' n' d := ⟨a.good, Nat.le_trans a.deep h, Nat.le_trans a.bulk g⟩
theorem Fines.app {k n m : Nat} {a b : List PyData} (h : Fines k n a) (g : Fines k m b) : Fines k (n + m) (a ++ b) := by
  refine ⟨(goodAll_iff _).mpr fun x hx => ?_, depthAll_le _ _ fun x hx => ?_, by have := h.bulk; have := g.bulk; rw [bulk_app]; omega⟩
  · rcases List.mem_append.mp hx with e | e
    · exact (goodAll_iff _).mp h.good x e
    · exact (goodAll_iff _).mp g.good x e
  · rcases List.mem_append.mp hx with e | e
    · exact Nat.le_trans (depth_mem e) h.deep
    · exact Nat.le_trans (depth_mem e) g.deep
theorem Fines.take {k n : Nat} {a : List PyData} (h : Fines k n a) (j : Nat) : Fines k n (a.take j) :=
  ⟨(goodAll_iff _).mpr fun x hx => (goodAll_iff _).mp h.good x (List.mem_of_mem_take hx), depthAll_le _ _ fun x hx => Nat.le_trans (depth_mem (List.mem_of_mem_take hx)) h.deep, Nat.le_trans (bulk_take j a) h.bulk⟩
theorem Fines.drop {k n : Nat} {a : List PyData} (h : Fines k n a) (j : Nat) : Fines k n (a.drop j) :=
  ⟨(goodAll_iff _).mpr fun x hx => (goodAll_iff _).mp h.good x (List.mem_of_mem_drop hx), depthAll_le _ _ fun x hx => Nat.le_trans (depth_mem (List.mem_of_mem_drop hx)) h.deep, Nat.le_trans (bulk_drop j a) h.bulk⟩
theorem Fines.tup {k n : Nat} {a : List PyData} (h : Fines k n a) : Fine (k + 1) n (.tuple a) :=
  ⟨by simp only [Hv.good]; exact h.good, by have := h.deep; simp only [PyData.depth]; omega, by have := h.bulk; simp only [PyData.bulk]; omega⟩
theorem Fines.lst {k n : Nat} {a : List PyData} (h : Fines k n a) : Fine (k + 1) n (.list a) :=
  ⟨by simp only [Hv.good]; exact h.good, by have := h.deep; simp only [PyData.depth]; omega, by have := h.bulk; simp only [PyData.bulk]; omega⟩
theorem Fine.of_tup {k n : Nat} {a : List PyData} (h : Fine (k + 1) n (.tuple a)) : Fines k n a :=
  ⟨by have := h.good; simpa only [Hv.good] using this, by have := h.deep; simp only [PyData.depth] at this; omega, by have := h.bulk; simpa only [PyData.bulk] using this⟩
theorem Fines.mem {k n : Nat} {a : List PyData} {d : PyData} (h : Fines k n a) (m : d ∈ a) : Fine k n d :=
  ⟨(goodAll_iff _).mp h.good d m, Nat.le_trans (depth_mem m) h.deep, Nat.le_trans (bulk_mem m) h.bulk⟩
theorem Fine.ok {k n : Nat} {d : PyData} (h : Fine k n d) (a : k ≤ 50) (b : n ≤ 90000) : Ok d := ⟨fun _ => h.good, Nat.le_trans h.deep a, Nat.le_trans h.bulk b⟩
end Hv
namespace K4
def oddD : List PyData := [.none, .bool true, .int (-1), .int 1000, .str "", .str "a", .str "A", .tuple [.str "folder"], .tuple [.str "link", .str "a//b"], .tuple [.str "link"], .int 5, .list [.int 0], .str "all"] ++
  [.str "cut back", .tuple [.str "folder", .str "a"], .tuple [.str "file", .tuple [.str "file"]], .tuple [.str "link", .str "a", .str "b"]]
theorem odd_fine : ∀ d ∈ oddD, Fine 2 20 d := by
  have e : oddD.all (fun d => good d && decide (d.depth ≤ 2) && decide (d.bulk ≤ 20)) = true := by decide +kernel
  intro d hd
  have := List.all_eq_true.mp e d hd
  simp only [Bool.and_eq_true, decide_eq_true_iff] at this
  exact ⟨this.1.1, this.1.2, this.2⟩
theorem str_fine (z : Str) (h : okS z = true) (n : Nat) (e : z.cps.size ≤ n) : Fine 0 n (.str z) := ⟨by simp only [good]; exact h, by simp only [PyData.depth]; omega, by simp only [PyData.bulk]; exact e⟩
def sAllD : PyData := .str "all"
theorem all_fine (k : Nat) : Fine k 3 sAllD := (str_fine "all" (by decide +kernel) 3 (by decide +kernel)).up (Nat.zero_le _) (Nat.le_refl _)
def bentD (z : Str) (r : List PyData) (dO : PyData) (i j : Nat) (i' j' : Nat) : List PyData :=
  let ds := .str z :: r; let d := PyData.tuple ds
  [.tuple ((((ds.drop i).take j) ++ [dO]) ++ ((ds.drop i').take j')), .tuple (((ds.drop i).take j) ++ ((ds.drop i').take j')), .tuple (ds ++ [dO]), .list ds, .str z] ++
  [.tuple [d], .tuple [sAllD, .tuple [d]], .tuple [sAllD, .list [d]], .tuple [sAllD, .tuple []], .tuple [sAllD, .tuple [d, .tuple [sAllD, .tuple [d]]]]]
theorem one_fine {k n : Nat} {d : PyData} (h : Fine k n d) : Fines k (n + 1 + 0) [d] := Fines.cons h (Fines.nil.up (Nat.zero_le _) (Nat.le_refl _))
theorem bent_fine {z : Str} {r : List PyData} {dO : PyData} (h : Fine 3 100 (.tuple (.str z :: r))) (g : Fine 2 20 dO) (i j i' j' : Nat) : ∀ d ∈ bentD z r dO i j i' j', Fine 9 600 d := by
  have hs := h.of_tup
  have h2 := hs.drop i |>.take j
  have h3 := hs.drop i' |>.take j'
  have o1 := one_fine g
  have d1 := one_fine h
  have a1 : Fine 5 _ (.tuple [sAllD, .tuple [.tuple (.str z :: r)]]) := (Fines.cons (all_fine 4) (one_fine d1.tup)).tup
  intro d hd
  simp only [bentD, List.cons_append, List.nil_append, List.mem_cons, List.not_mem_nil, or_false] at hd
  rcases hd with e | e | e | e | e | e | e | e | e | e
  · rw [e]; exact ((h2.app o1).app h3).tup.up (by decide) (by decide)
  · rw [e]; exact (h2.app h3).tup.up (by decide) (by decide)
  · rw [e]; exact (hs.app o1).tup.up (by decide) (by decide)
  · rw [e]; exact hs.lst.up (by decide) (by decide)
  · rw [e]; exact (hs.mem (List.mem_cons_self ..)).up (by decide) (by decide)
  · rw [e]; exact d1.tup.up (by decide) (by decide)
  · rw [e]; exact a1.up (by decide) (by decide)
  · rw [e]; exact (Fines.cons (all_fine 4) (one_fine d1.lst)).tup.up (by decide) (by decide)
  · rw [e]; exact (Fines.cons (all_fine 1) (one_fine (Fines.nil.tup))).tup.up (by decide) (by decide)
  · rw [e]; exact (Fines.cons (all_fine 6) (one_fine ((Fines.cons (h.up (show 3 ≤ 5 by decide) (Nat.le_refl 100)) (one_fine a1)).tup))).tup.up (by decide) (by decide)
abbrev s_bent : Stmt := top 40
theorem sc_bent : FnScope ["_law_state", "_law_one", "_law_spot", "_law_some", "_law_odd_here", "_law_more"] ["_law_state", "_law_one"] (defScope s_bent) :=
  ⟨rfl, rfl, rfl, by decide +kernel, rfl, by decide +kernel, by decide +kernel⟩
def spBent (K : PySem.W.Frag) : Sp := fun vs H Q _ => ∃ (p : Addr) (x : V) (z : Str) (r : List PyData), vs = [.ref p, x] ∧ Pool H p ∧ Dp K (Hx p H) x (.tuple (.str z :: r)) ∧ Fine 3 100 (.tuple (.str z :: r)) ∧ r.length ≤ 4 ∧
  ∀ (v : V) (d : PyData) H', But p H H' → Pool H' p → Dp K (Hx p H') v d → Fine 9 600 d → Q v H'
section
variable {P : Program} {w : World} {K : PySem.W.Frag} {mg : Str → Option Value} {base : Heap} {a : Ad} {b : Bd} {c : Cd}
theorem ok_bent {f : Addr} {fd f1 : FuncData} (F : Fun K "_law_bent" "_law_bent" s_bent f fd) (T : Txt K mg a) (L : TxtE K mg c)
    (G : Keeps P w K mg base CX0 1 c.take f1 ["_law_state", "_law_many"] spTake) (g : Binds K f1 ["_law_state", "_law_many"] []) : Keeps P w K mg base CX0 2 f fd ["_law_state", "_law_one"] (spBent K) := by
  refine keeps0 F sc_bent (fun vs H Q E h => ?_) (fun cdv A outer s H vs Q E hr calm h => ?_)
  · obtain ⟨p, x, z, r, rfl, _⟩ := h
    rfl
  · obtain ⟨p, x, z, r, rfl, pool, dp, fine, r4, k⟩ := h
    refine ⟨_, pss_cons (ps_set (i := 2) sc_bent.nd rfl (Or.inl rfl) (pe_v (callR_fn G hr calm g .nil pass0) (by rfl) L.g_take L.k_take (pa_cons (pv 0) (pa_cons (pe_callB call_len_seq (by rfl) T.b_len PySem.boot_len (pa_cons (pv 1) pa_nil)) pa_nil))))
      (pss_cons (ps_set (i := 3) sc_bent.nd rfl (Or.inl rfl) (pe_lst (pa_cons pe_non (pa_cons pe_bl (pa_cons (pe_un un_neg pe_int) (pa_cons pe_int (pa_cons pe_str (pa_cons pe_str (pa_cons pe_str
        (pa_cons (pe_tup (pa_cons pe_str pa_nil)) (pa_cons (pe_tup (pa_cons pe_str (pa_cons pe_str pa_nil))) (pa_cons (pe_tup (pa_cons pe_str pa_nil)) (pa_cons pe_int (pa_cons (pe_lst (pa_cons pe_int pa_nil)) (pa_cons pe_str pa_nil)))))))))))))))
      (pss_cons (ps_set (i := 3) sc_bent.nd rfl (Or.inl rfl) (pe_op op_cat (pv 3) (pe_lst (pa_cons pe_str (pa_cons (pe_tup (pa_cons pe_str (pa_cons pe_str pa_nil))) (pa_cons (pe_tup (pa_cons pe_str (pa_cons (pe_tup (pa_cons pe_str pa_nil)) pa_nil))) (pa_cons (pe_tup (pa_cons pe_str (pa_cons pe_str (pa_cons pe_str pa_nil)))) pa_nil)))))))
      (pss_cons (ps_set (i := 4) sc_bent.nd rfl (Or.inl rfl) (pe_ix ix_list (pv 3) (pe_v (callR_fn G hr calm g .nil pass0) (by rfl) L.g_take L.k_take (pa_cons (pv 0) (pa_cons pe_int pa_nil))) (fun _ _ => rfl)))
      (pss_cons (ps_set (i := 5) sc_bent.nd rfl (Or.inl rfl) (pe_lst (pa_cons (pe_op op_catU (pe_op op_catU (pe_slice sl_tupU (pv 1) po_none (po_some (pv 2))) (pe_tup (pa_cons (pv 4) pa_nil))) (pe_slice sl_tupU (pv 1) (po_some (pe_op op_add (pv 2) pe_int)) po_none))
        (pa_cons (pe_op op_catU (pe_slice sl_tupU (pv 1) po_none (po_some (pv 2))) (pe_slice sl_tupU (pv 1) (po_some (pe_op op_add (pv 2) pe_int)) po_none))
        (pa_cons (pe_op op_catU (pv 1) (pe_tup (pa_cons (pv 4) pa_nil))) (pa_cons (pe_callTy call_list_of (by rfl) L.b_list (by decide +kernel) (pa_cons (pv 1) pa_nil)) (pa_cons (pe_ix ix_tup (pv 1) pe_int (fun _ _ => rfl)) pa_nil)))))))
      (pss_cons (ps_set (i := 5) sc_bent.nd rfl (Or.inl rfl) (pe_op op_cat (pv 5) (pe_lst (pa_cons (pe_tup (pa_cons (pv 1) pa_nil)) (pa_cons (pe_tup (pa_cons pe_str (pa_cons (pe_tup (pa_cons (pv 1) pa_nil)) pa_nil)))
        (pa_cons (pe_tup (pa_cons pe_str (pa_cons (pe_lst (pa_cons (pv 1) pa_nil)) pa_nil))) (pa_cons (pe_tup (pa_cons pe_str (pa_cons (pe_tup pa_nil) pa_nil)))
        (pa_cons (pe_tup (pa_cons pe_str (pa_cons (pe_tup (pa_cons (pv 1) (pa_cons (pe_tup (pa_cons pe_str (pa_cons (pe_tup (pa_cons (pv 1) pa_nil)) pa_nil))) pa_nil))) pa_nil))) pa_nil))))))))
      (pss_one (ps_ret (pe_ix ix_list (pv 5) (pe_v (callR_fn G hr calm g .nil pass0) (by rfl) L.g_take L.k_take (pa_cons (pv 0) (pa_cons pe_int pa_nil))) (fun _ _ => rfl))))))))), ?_⟩
    obtain ⟨q, xs, rfl, sq, al⟩ := th_tup (Th.d (same_dp (hx_sub p H) _ _ dp))
    have lx := dpAll_length al
    rw [List.length_cons] at lx
    refine ⟨_, rfl, _, rfl, q, xs, rfl, .inr sq, p, _, rfl, pool, (by omega), (by omega), fun r' H1 r0 r1 b1 pool1 => ?_⟩
    have c1 := b1
    walk_at "rd"
    refine ⟨(by show 1 ≤ sizeLine; decide), fun w1 z1 => ?_⟩
    generalize hG : upd _ w1 _ = G1
    obtain ⟨g1, x1⟩ := newG hG z1
    clear hG
    refine ⟨(by show 2 ≤ sizeLine; decide), fun w2 z2 => ?_⟩
    generalize hG : upd _ w2 _ = G2
    obtain ⟨g2, x2⟩ := newG hG z2
    clear hG
    refine ⟨(by show 1 ≤ sizeLine; decide), fun w3 z3 => ?_⟩
    generalize hG : upd _ w3 _ = G3
    obtain ⟨g3, x3⟩ := newG hG z3
    clear hG
    refine ⟨(by show 1 ≤ sizeLine; decide), fun l0 z4 => ?_⟩
    generalize hG : upd _ l0 _ = G4
    obtain ⟨g4, x4⟩ := newG hG z4
    clear hG
    refine ⟨(by show 13 ≤ sizeLine; decide), fun l13 z5 => ?_⟩
    generalize hG : upd _ l13 _ = G5
    obtain ⟨g5, x5⟩ := newG hG z5
    clear hG
    refine ⟨_, rfl, ?_⟩
    refine ⟨(by show 2 ≤ sizeLine; decide), fun u1 z6 => ?_⟩
    generalize hG : upd _ u1 _ = G6
    obtain ⟨g6, x6⟩ := newG hG z6
    clear hG
    refine ⟨(by show 1 ≤ sizeLine; decide), fun u2 z7 => ?_⟩
    generalize hG : upd _ u2 _ = G7
    obtain ⟨g7, x7⟩ := newG hG z7
    clear hG
    refine ⟨(by show 2 ≤ sizeLine; decide), fun u3 z8 => ?_⟩
    generalize hG : upd _ u3 _ = G8
    obtain ⟨g8, x8⟩ := newG hG z8
    clear hG
    refine ⟨(by show 3 ≤ sizeLine; decide), fun u4 z9 => ?_⟩
    generalize hG : upd _ u4 _ = G9
    obtain ⟨g9, x9⟩ := newG hG z9
    clear hG
    refine ⟨(by show 4 ≤ sizeLine; decide), fun l4 z10 => ?_⟩
    generalize hG : upd _ l4 _ = G10
    obtain ⟨g10, x10⟩ := newG hG z10
    clear hG
    refine ⟨l13, l4, _, _, rfl, rfl, g10 _ _ (g9 _ _ (g8 _ _ (g7 _ _ (g6 _ _ (x5))))), x10, (by show 13 + 4 ≤ sizeLine; decide), fun l17 z11 => ?_⟩
    generalize hG : upd _ l17 _ = G11
    obtain ⟨g11, x11⟩ := newG hG z11
    clear hG
    have s11 := ((((((((((g1).trans g2).trans g3).trans g4).trans g5).trans g6).trans g7).trans g8).trans g9).trans g10).trans g11
    have n_w1 : w1 ≠ p := pool1.ne z1
    have f_w1 := g11 _ _ (g10 _ _ (g9 _ _ (g8 _ _ (g7 _ _ (g6 _ _ (g5 _ _ (g4 _ _ (g3 _ _ (g2 _ _ (x1))))))))))
    have n_w2 : w2 ≠ p := (pool1.same (g1)).ne z2
    have f_w2 := g11 _ _ (g10 _ _ (g9 _ _ (g8 _ _ (g7 _ _ (g6 _ _ (g5 _ _ (g4 _ _ (g3 _ _ (x2)))))))))
    have n_w3 : w3 ≠ p := (pool1.same ((g1).trans g2)).ne z3
    have f_w3 := g11 _ _ (g10 _ _ (g9 _ _ (g8 _ _ (g7 _ _ (g6 _ _ (g5 _ _ (g4 _ _ (x3))))))))
    have n_l0 : l0 ≠ p := (pool1.same (((g1).trans g2).trans g3)).ne z4
    have f_l0 := g11 _ _ (g10 _ _ (g9 _ _ (g8 _ _ (g7 _ _ (g6 _ _ (g5 _ _ (x4)))))))
    have n_u1 : u1 ≠ p := (pool1.same (((((g1).trans g2).trans g3).trans g4).trans g5)).ne z6
    have f_u1 := g11 _ _ (g10 _ _ (g9 _ _ (g8 _ _ (g7 _ _ (x6)))))
    have n_u2 : u2 ≠ p := (pool1.same ((((((g1).trans g2).trans g3).trans g4).trans g5).trans g6)).ne z7
    have f_u2 := g11 _ _ (g10 _ _ (g9 _ _ (g8 _ _ (x7))))
    have n_u3 : u3 ≠ p := (pool1.same (((((((g1).trans g2).trans g3).trans g4).trans g5).trans g6).trans g7)).ne z8
    have f_u3 := g11 _ _ (g10 _ _ (g9 _ _ (x8)))
    have n_u4 : u4 ≠ p := (pool1.same ((((((((g1).trans g2).trans g3).trans g4).trans g5).trans g6).trans g7).trans g8)).ne z9
    have f_u4 := g11 _ _ (g10 _ _ (x9))
    have n_l17 : l17 ≠ p := (pool1.same ((((((((((g1).trans g2).trans g3).trans g4).trans g5).trans g6).trans g7).trans g8).trans g9).trans g10)).ne z11
    have f_l17 := x11
    have pool2 := pool1.same s11
    have c2 := c1.trans (But.of s11)
    have dps : DpAll K (Hx p G11) ([V.non, .bl true, .int (-1), .int 1000, .str "", .str "a", .str "A", .ref w1, .ref w2, .ref w3, .int 5, .ref l0, .str "all"] ++ [.str "cut back", .ref u1, .ref u3, .ref u4]) oddD := by
      have tp : ∀ {t : Addr} {ys : List V} {es : List PyData}, t ≠ p → G11 t = some (.tup ys) → DpAll K (Hx p G11) ys es → Dp K (Hx p G11) (.ref t) (.tuple es) := fun n e d => .tup (.inl (.inl (hx_at n e))) d
      refine .cons .non (.cons (.bl _) (.cons (.int _) (.cons (.int _) (.cons (.str _) (.cons (.str _) (.cons (.str _) ?_))))))
      refine .cons (tp n_w1 f_w1 (.cons (.str _) .nil)) (.cons (tp n_w2 f_w2 (.cons (.str _) (.cons (.str _) .nil))) (.cons (tp n_w3 f_w3 (.cons (.str _) .nil)) ?_))
      refine .cons (.int _) (.cons (.lst (.inl (.inl (hx_at n_l0 f_l0))) (.cons (.int _) .nil)) (.cons (.str _) ?_))
      exact .cons (.str _) (.cons (tp n_u1 f_u1 (.cons (.str _) (.cons (.str _) .nil))) (.cons (tp n_u3 f_u3 (.cons (.str _) (.cons (tp n_u2 f_u2 (.cons (.str _) .nil)) .nil))) (.cons (tp n_u4 f_u4 (.cons (.str _) (.cons (.str _) (.cons (.str _) .nil)))) .nil)))
    clear f_w1 f_w2 f_w3 f_l0 f_u1 f_u2 f_u3 f_u4 n_w1 n_w2 n_w3 n_l0 n_u1 n_u2 n_u3 n_u4 x1 x2 x3 x4 x5 x6 x7 x8 x9 x10 x11 g1 g2 g3 g4 g5 g6 g7 g8 g9 g10 g11 z1 z2 z3 z4 z5 z6 z7 z8 z9 z10 z11 s11 c1 b1 pool1
    refine ⟨_, rfl, _, rfl, p, 17, rfl, pool2, (by decide), (by decide), fun r'' H2 r0' r1' b2 pool3 => ?_⟩
    have c3 := c2.trans b2
    have dps2 := same_dpAll (hx_but b2) _ _ dps
    obtain ⟨vO, mO, at_O⟩ := item_any (xs := ([V.non, .bl true, .int (-1), .int 1000, .str "", .str "a", .str "A", .ref w1, .ref w2, .ref w3, .int 5, .ref l0, .str "all"] ++ [.str "cut back", .ref u1, .ref u3, .ref u4])) r0' (by exact r1')
    obtain ⟨dO, mD, dpO⟩ := dpAll_mem dps2 mO
    have fO := odd_fine dO mD
    refine ⟨l17, _, r'', vO, rfl, rfl, SqL.of (b2 _ _ n_l17 f_l17), at_O, ?_⟩
    clear mO at_O mD dps dps2 f_l17 n_l17 c2 b2 pool2 r0' r1'
    have dp3 := same_dp (hx_but c3) _ _ dp
    clear dp sq al lx pool
    obtain ⟨q', xs', e', sqX, alX⟩ := th_tup (Th.d dp3)
    cases e'
    have sqH := same_tup (hx_sub p H2) sqX
    have lX := dpAll_length alX
    rw [List.length_cons] at lX
    have at0 : atI xs' 0 = some (.str z) := by
      cases alX with
      | cons a1 a2 => cases a1; exact atI_nat (by rfl)
    have cl := cutV_length xs'
    refine ⟨_, rfl, _, rfl, r', rfl, q, xs', rfl, sqH, fun a1 J1 m1 s1 => ?_⟩
    refine ⟨_, rfl, ?_⟩
    refine ⟨(by show 1 ≤ sizeLine; decide), fun a2 z2 => ?_⟩
    generalize hG : upd _ a2 _ = J2
    obtain ⟨m2, x2⟩ := newG hG z2
    clear hG
    refine ⟨a1, a2, _, _, rfl, rfl, same_tup m2 s1, .inl (.inl x2), (by have := cl none (some r'); simp only [List.length_cons, List.length_nil]; exact Nat.le_trans (show _ ≤ 100 by omega) (by decide)), fun a3 J3 m3 s3 => ?_⟩
    refine ⟨_, rfl, _, rfl, _, _, rfl, rfl, _, rfl, q, xs', rfl, (same_tup (((m1).trans m2).trans m3) sqH), fun a4 J4 m4 s4 => ?_⟩
    refine ⟨a3, a4, _, _, rfl, rfl, same_tup m4 s3, s4, (by have := cl none (some r'); have := cl (some (r' + 1)) none; simp only [List.length_append, List.length_cons, List.length_nil]; exact Nat.le_trans (show _ ≤ 100 by omega) (by decide)), fun a5 J5 m5 s5 => ?_⟩
    refine ⟨_, rfl, _, rfl, r', rfl, q, xs', rfl, (same_tup (((((m1).trans m2).trans m3).trans m4).trans m5) sqH), fun a6 J6 m6 s6 => ?_⟩
    refine ⟨_, rfl, _, rfl, _, _, rfl, rfl, _, rfl, q, xs', rfl, (same_tup ((((((m1).trans m2).trans m3).trans m4).trans m5).trans m6) sqH), fun a7 J7 m7 s7 => ?_⟩
    refine ⟨a6, a7, _, _, rfl, rfl, same_tup m7 s6, s7, (by have := cl none (some r'); have := cl (some (r' + 1)) none; exact Nat.le_trans (show _ ≤ 100 by omega) (by decide)), fun a8 J8 m8 s8 => ?_⟩
    refine ⟨_, rfl, _, rfl, ?_⟩
    refine ⟨(by show 1 ≤ sizeLine; decide), fun a9 z9 => ?_⟩
    generalize hG : upd _ a9 _ = J9
    obtain ⟨m9, x9⟩ := newG hG z9
    clear hG
    refine ⟨q, a9, _, _, rfl, rfl, (same_tup (((((((((m1).trans m2).trans m3).trans m4).trans m5).trans m6).trans m7).trans m8).trans m9) sqH), .inl (.inl x9), (by simp only [List.length_cons, List.length_nil]; exact Nat.le_trans (show _ ≤ 100 by omega) (by decide)), fun a10 J10 m10 s10 => ?_⟩
    refine ⟨_, rfl, q, xs', rfl, .inr (same_tup ((((((((((m1).trans m2).trans m3).trans m4).trans m5).trans m6).trans m7).trans m8).trans m9).trans m10) sqH), fun a11 z11 => ?_⟩
    generalize hG : upd _ a11 _ = J11
    obtain ⟨m11, x11⟩ := newG hG z11
    clear hG
    refine ⟨_, rfl, q, xs', 0, .str z, rfl, rfl, (same_tup (((((((((((m1).trans m2).trans m3).trans m4).trans m5).trans m6).trans m7).trans m8).trans m9).trans m10).trans m11) sqH), at0, ?_⟩
    refine ⟨(by show 5 ≤ sizeLine; decide), fun a12 z12 => ?_⟩
    generalize hG : upd _ a12 _ = J12
    obtain ⟨m12, x12⟩ := newG hG z12
    clear hG
    refine ⟨_, rfl, _, rfl, ?_⟩
    refine ⟨(by show 1 ≤ sizeLine; decide), fun b1 z13 => ?_⟩
    generalize hG : upd _ b1 _ = J13
    obtain ⟨m13, x13⟩ := newG hG z13
    clear hG
    refine ⟨_, rfl, ?_⟩
    refine ⟨(by show 1 ≤ sizeLine; decide), fun b2 z14 => ?_⟩
    generalize hG : upd _ b2 _ = J14
    obtain ⟨m14, x14⟩ := newG hG z14
    clear hG
    refine ⟨(by show 2 ≤ sizeLine; decide), fun b3 z15 => ?_⟩
    generalize hG : upd _ b3 _ = J15
    obtain ⟨m15, x15⟩ := newG hG z15
    clear hG
    refine ⟨_, rfl, ?_⟩
    refine ⟨(by show 1 ≤ sizeLine; decide), fun b4 z16 => ?_⟩
    generalize hG : upd _ b4 _ = J16
    obtain ⟨m16, x16⟩ := newG hG z16
    clear hG
    refine ⟨(by show 2 ≤ sizeLine; decide), fun b5 z17 => ?_⟩
    generalize hG : upd _ b5 _ = J17
    obtain ⟨m17, x17⟩ := newG hG z17
    clear hG
    refine ⟨(by show 0 ≤ sizeLine; decide), fun b6 z18 => ?_⟩
    generalize hG : upd _ b6 _ = J18
    obtain ⟨m18, x18⟩ := newG hG z18
    clear hG
    refine ⟨(by show 2 ≤ sizeLine; decide), fun b7 z19 => ?_⟩
    generalize hG : upd _ b7 _ = J19
    obtain ⟨m19, x19⟩ := newG hG z19
    clear hG
    refine ⟨_, rfl, _, rfl, ?_⟩
    refine ⟨(by show 1 ≤ sizeLine; decide), fun b8 z20 => ?_⟩
    generalize hG : upd _ b8 _ = J20
    obtain ⟨m20, x20⟩ := newG hG z20
    clear hG
    refine ⟨(by show 2 ≤ sizeLine; decide), fun b9 z21 => ?_⟩
    generalize hG : upd _ b9 _ = J21
    obtain ⟨m21, x21⟩ := newG hG z21
    clear hG
    refine ⟨(by show 2 ≤ sizeLine; decide), fun b10 z22 => ?_⟩
    generalize hG : upd _ b10 _ = J22
    obtain ⟨m22, x22⟩ := newG hG z22
    clear hG
    refine ⟨(by show 2 ≤ sizeLine; decide), fun b11 z23 => ?_⟩
    generalize hG : upd _ b11 _ = J23
    obtain ⟨m23, x23⟩ := newG hG z23
    clear hG
    refine ⟨(by show 5 ≤ sizeLine; decide), fun b12 z24 => ?_⟩
    generalize hG : upd _ b12 _ = J24
    obtain ⟨m24, x24⟩ := newG hG z24
    clear hG
    refine ⟨a12, b12, _, _, rfl, rfl, m24 _ _ (m23 _ _ (m22 _ _ (m21 _ _ (m20 _ _ (m19 _ _ (m18 _ _ (m17 _ _ (m16 _ _ (m15 _ _ (m14 _ _ (m13 _ _ (x12)))))))))))), x24, (by show 5 + 5 ≤ sizeLine; decide), fun l10 z25 => ?_⟩
    generalize hG : upd _ l10 _ = J25
    obtain ⟨m25, x25⟩ := newG hG z25
    clear hG
    have sJ : Same H2 J25 := ((((((((((((((((((((((((m1).trans m2).trans m3).trans m4).trans m5).trans m6).trans m7).trans m8).trans m9).trans m10).trans m11).trans m12).trans m13).trans m14).trans m15).trans m16).trans m17).trans m18).trans m19).trans m20).trans m21).trans m22).trans m23).trans m24).trans m25
    have poolJ := pool3.same sJ
    have t5 := hx_sqt poolJ (same_tup ((((((((((((((((((((m6).trans m7).trans m8).trans m9).trans m10).trans m11).trans m12).trans m13).trans m14).trans m15).trans m16).trans m17).trans m18).trans m19).trans m20).trans m21).trans m22).trans m23).trans m24).trans m25) s5)
    have t8 := hx_sqt poolJ (same_tup (((((((((((((((((m9).trans m10).trans m11).trans m12).trans m13).trans m14).trans m15).trans m16).trans m17).trans m18).trans m19).trans m20).trans m21).trans m22).trans m23).trans m24).trans m25) s8)
    have t10 := hx_sqt poolJ (same_tup (((((((((((((((m11).trans m12).trans m13).trans m14).trans m15).trans m16).trans m17).trans m18).trans m19).trans m20).trans m21).trans m22).trans m23).trans m24).trans m25) s10)
    have n_a11 : a11 ≠ p := (pool3.same ((((((((((m1).trans m2).trans m3).trans m4).trans m5).trans m6).trans m7).trans m8).trans m9).trans m10)).ne z11
    have f_a11 := m25 _ _ (m24 _ _ (m23 _ _ (m22 _ _ (m21 _ _ (m20 _ _ (m19 _ _ (m18 _ _ (m17 _ _ (m16 _ _ (m15 _ _ (m14 _ _ (m13 _ _ (m12 _ _ (x11))))))))))))))
    have n_b1 : b1 ≠ p := (pool3.same ((((((((((((m1).trans m2).trans m3).trans m4).trans m5).trans m6).trans m7).trans m8).trans m9).trans m10).trans m11).trans m12)).ne z13
    have f_b1 := m25 _ _ (m24 _ _ (m23 _ _ (m22 _ _ (m21 _ _ (m20 _ _ (m19 _ _ (m18 _ _ (m17 _ _ (m16 _ _ (m15 _ _ (m14 _ _ (x13))))))))))))
    have n_b2 : b2 ≠ p := (pool3.same (((((((((((((m1).trans m2).trans m3).trans m4).trans m5).trans m6).trans m7).trans m8).trans m9).trans m10).trans m11).trans m12).trans m13)).ne z14
    have f_b2 := m25 _ _ (m24 _ _ (m23 _ _ (m22 _ _ (m21 _ _ (m20 _ _ (m19 _ _ (m18 _ _ (m17 _ _ (m16 _ _ (m15 _ _ (x14)))))))))))
    have n_b3 : b3 ≠ p := (pool3.same ((((((((((((((m1).trans m2).trans m3).trans m4).trans m5).trans m6).trans m7).trans m8).trans m9).trans m10).trans m11).trans m12).trans m13).trans m14)).ne z15
    have f_b3 := m25 _ _ (m24 _ _ (m23 _ _ (m22 _ _ (m21 _ _ (m20 _ _ (m19 _ _ (m18 _ _ (m17 _ _ (m16 _ _ (x15))))))))))
    have n_b4 : b4 ≠ p := (pool3.same (((((((((((((((m1).trans m2).trans m3).trans m4).trans m5).trans m6).trans m7).trans m8).trans m9).trans m10).trans m11).trans m12).trans m13).trans m14).trans m15)).ne z16
    have f_b4 := m25 _ _ (m24 _ _ (m23 _ _ (m22 _ _ (m21 _ _ (m20 _ _ (m19 _ _ (m18 _ _ (m17 _ _ (x16)))))))))
    have n_b5 : b5 ≠ p := (pool3.same ((((((((((((((((m1).trans m2).trans m3).trans m4).trans m5).trans m6).trans m7).trans m8).trans m9).trans m10).trans m11).trans m12).trans m13).trans m14).trans m15).trans m16)).ne z17
    have f_b5 := m25 _ _ (m24 _ _ (m23 _ _ (m22 _ _ (m21 _ _ (m20 _ _ (m19 _ _ (m18 _ _ (x17))))))))
    have n_b6 : b6 ≠ p := (pool3.same (((((((((((((((((m1).trans m2).trans m3).trans m4).trans m5).trans m6).trans m7).trans m8).trans m9).trans m10).trans m11).trans m12).trans m13).trans m14).trans m15).trans m16).trans m17)).ne z18
    have f_b6 := m25 _ _ (m24 _ _ (m23 _ _ (m22 _ _ (m21 _ _ (m20 _ _ (m19 _ _ (x18)))))))
    have n_b7 : b7 ≠ p := (pool3.same ((((((((((((((((((m1).trans m2).trans m3).trans m4).trans m5).trans m6).trans m7).trans m8).trans m9).trans m10).trans m11).trans m12).trans m13).trans m14).trans m15).trans m16).trans m17).trans m18)).ne z19
    have f_b7 := m25 _ _ (m24 _ _ (m23 _ _ (m22 _ _ (m21 _ _ (m20 _ _ (x19))))))
    have n_b8 : b8 ≠ p := (pool3.same (((((((((((((((((((m1).trans m2).trans m3).trans m4).trans m5).trans m6).trans m7).trans m8).trans m9).trans m10).trans m11).trans m12).trans m13).trans m14).trans m15).trans m16).trans m17).trans m18).trans m19)).ne z20
    have f_b8 := m25 _ _ (m24 _ _ (m23 _ _ (m22 _ _ (m21 _ _ (x20)))))
    have n_b9 : b9 ≠ p := (pool3.same ((((((((((((((((((((m1).trans m2).trans m3).trans m4).trans m5).trans m6).trans m7).trans m8).trans m9).trans m10).trans m11).trans m12).trans m13).trans m14).trans m15).trans m16).trans m17).trans m18).trans m19).trans m20)).ne z21
    have f_b9 := m25 _ _ (m24 _ _ (m23 _ _ (m22 _ _ (x21))))
    have n_b10 : b10 ≠ p := (pool3.same (((((((((((((((((((((m1).trans m2).trans m3).trans m4).trans m5).trans m6).trans m7).trans m8).trans m9).trans m10).trans m11).trans m12).trans m13).trans m14).trans m15).trans m16).trans m17).trans m18).trans m19).trans m20).trans m21)).ne z22
    have f_b10 := m25 _ _ (m24 _ _ (m23 _ _ (x22)))
    have n_b11 : b11 ≠ p := (pool3.same ((((((((((((((((((((((m1).trans m2).trans m3).trans m4).trans m5).trans m6).trans m7).trans m8).trans m9).trans m10).trans m11).trans m12).trans m13).trans m14).trans m15).trans m16).trans m17).trans m18).trans m19).trans m20).trans m21).trans m22)).ne z23
    have f_b11 := m25 _ _ (m24 _ _ (x23))
    have n_l10 : l10 ≠ p := (pool3.same ((((((((((((((((((((((((m1).trans m2).trans m3).trans m4).trans m5).trans m6).trans m7).trans m8).trans m9).trans m10).trans m11).trans m12).trans m13).trans m14).trans m15).trans m16).trans m17).trans m18).trans m19).trans m20).trans m21).trans m22).trans m23).trans m24)).ne z25
    have f_l10 := x25
    have sX : Same (Hx p H2) (Hx p J25) := hx_but (But.of sJ)
    have alJ := same_dpAll sX _ _ alX
    have dO' := same_dp sX _ _ dpO
    have d1 : Dp K (Hx p J25) (.ref q) (.tuple (.str z :: r)) := same_dp sX _ _ dp3
    have tp : ∀ {t : Addr} {ys : List V} {es : List PyData}, t ≠ p → J25 t = some (.tup ys) → DpAll K (Hx p J25) ys es → Dp K (Hx p J25) (.ref t) (.tuple es) := fun n e d => .tup (.inl (.inl (hx_at n e))) d
    have dps : DpAll K (Hx p J25) ([V.ref a5, .ref a8, .ref a10, .ref a11, .str z] ++ [.ref b1, .ref b3, .ref b5, .ref b7, .ref b11]) (bentD z r dO (HT.sIx xs'.length 0 none) (HT.sIx xs'.length xs'.length (some r') - HT.sIx xs'.length 0 none) (HT.sIx xs'.length 0 (some (r' + 1))) (HT.sIx xs'.length xs'.length none - HT.sIx xs'.length 0 (some (r' + 1)))) := by
      have cA : DpAll K (Hx p J25) (cutV xs' none (some r')) _ := dpAll_take (HT.sIx xs'.length xs'.length (some r') - HT.sIx xs'.length 0 none) (dpAll_drop (HT.sIx xs'.length 0 none) alJ)
      have cB : DpAll K (Hx p J25) (cutV xs' (some (r' + 1)) none) _ := dpAll_take (HT.sIx xs'.length xs'.length none - HT.sIx xs'.length 0 (some (r' + 1))) (dpAll_drop (HT.sIx xs'.length 0 (some (r' + 1))) alJ)
      refine .cons (.tup t5 (dpAll_append (dpAll_append cA (.cons dO' .nil)) cB)) (.cons (.tup t8 (dpAll_append cA cB)) (.cons (.tup t10 (dpAll_append alJ (.cons dO' .nil))) (.cons (.lst (.inl (.inl (hx_at n_a11 f_a11))) alJ) (.cons (.str z) ?_))))
      have y8 := tp n_b8 f_b8 (.cons d1 .nil)
      refine .cons (tp n_b1 f_b1 (.cons d1 .nil)) (.cons (tp n_b3 f_b3 (.cons (.str _) (.cons (tp n_b2 f_b2 (.cons d1 .nil)) .nil))) (.cons (tp n_b5 f_b5 (.cons (.str _) (.cons (.lst (.inl (.inl (hx_at n_b4 f_b4))) (.cons d1 .nil)) .nil))) (.cons (tp n_b7 f_b7 (.cons (.str _) (.cons (tp n_b6 f_b6 .nil) .nil))) ?_)))
      exact .cons (tp n_b11 f_b11 (.cons (.str _) (.cons (tp n_b10 f_b10 (.cons d1 (.cons (tp n_b9 f_b9 (.cons (.str _) (.cons y8 .nil))) .nil))) .nil))) .nil
    refine ⟨_, rfl, _, rfl, p, 10, rfl, poolJ, (by decide), (by decide), fun r3 H3 k0 k1 b3' pool4 => ?_⟩
    obtain ⟨vR, mR, at_R⟩ := item_any (xs := ([V.ref a5, .ref a8, .ref a10, .ref a11, .str z] ++ [.ref b1, .ref b3, .ref b5, .ref b7, .ref b11])) k0 (by exact k1)
    obtain ⟨dR, mD, dpR⟩ := dpAll_mem (same_dpAll (hx_but b3') _ _ dps) mR
    refine ⟨l10, _, r3, vR, rfl, rfl, SqL.of (b3' _ _ n_l10 f_l10), at_R, ?_⟩
    exact k vR dR H3 ((c3.trans (But.of sJ)).trans b3') pool4 dpR (bent_fine fine fO _ _ _ _ dR mD)
end
end K4
end

section
open PySem PySem.Spec PyProof.Rows L2 Hv
local macro_rules | `(tactic| walk_at "rd") => `(tactic| repeat (first
  | refine ⟨_, rfl, ?_⟩
  | refine ⟨_, _, rfl, rfl, ?_⟩
  | refine ⟨_, _, rfl, ?_⟩
  | refine And.intro (show CPow _ _ from ⟨by decide, by decide, by decide⟩) ?_))
namespace K4
abbrev s_right : Stmt := top 41
theorem sc_right : FnScope ["_law_thing", "_law_kept", "_law_cut", "_law_told"] ["_law_thing"] (defScope s_right) :=
  ⟨rfl, rfl, rfl, by decide +kernel, rfl, by decide +kernel, by decide +kernel⟩
def spRight (K : PySem.W.Frag) : Sp := fun vs H Q _ => ∃ (x : V) (d : PyData), vs = [x] ∧ Th K H x d ∧ Ok d ∧ d.depth ≤ 20 ∧ ∀ H', Same H H' → Q (.bl true) H'
theorem eqv_str (d : PyData) (z : Str) : PyData.eqv d (.str z) = decide (dStr d = some z) := by
  cases d with
  | str y =>
    show (y == z) = decide (some y = some z)
    rw [Bool.eq_iff_iff, beq_iff_eq, decide_eq_true_iff]
    exact ⟨fun h => by rw [h], fun h => Option.some.inj h⟩
  | _ => rfl
theorem two_good (a b : Bool) : Hv.good (.list [.bool a, .bool b]) = true := by cases a <;> cases b <;> decide
theorem cut_two' (e e2 : PyData) : cutB (.tuple [e, e2]) = (decide (dStr e = some (Str.ofString "cut back")) && countB e2) := by
  rw [cut_two]
  cases dStr e with
  | none => rw [show decide ((none : Option Str) = some (Str.ofString "cut back")) = false from decide_eq_false (fun h => nomatch h), Bool.and_false, Bool.and_false, Bool.false_and]
  | some z => rw [Option.isSome_some, Bool.true_and, Bool.and_comm]
section
variable {P : Program} {w : World} {K : PySem.W.Frag} {mg : Str → Option Value} {base : Heap} {a : Ad} {b : Bd} {c : Cd}
theorem ok_right {f : Addr} {fd f1 f2 f3 f4 : FuncData} (F : Fun K "_law_right" "_law_right" s_right f fd) (T : Txt K mg a) (D : TxtD K mg a b) (L : TxtE K mg c)
    (G1 : Keeps P w K mg base CX0 9 b.is_change f1 ["thing"] (spD K changeB)) (g1 : Binds K f1 ["thing"] [])
    (G2 : Keeps P w K mg base CX0 10 b.is_entry f2 ["thing"] (spD K entryB)) (g2 : Binds K f2 ["thing"] [])
    (G3 : Keeps P w K mg base CX0 24 c.change f3 ["_law_thing"] (spR K 21)) (g3 : Binds K f3 ["_law_thing"] [])
    (G4 : Keeps P w K mg base CX0 1 c.num f4 ["_law_thing", "_law_most"] (spNum K)) (g4 : Binds K f4 ["_law_thing", "_law_most"] []) :
    Keeps P w K mg base CX0 25 f fd ["_law_thing"] (spRight K) := by
  refine keeps0 F sc_right (fun vs H Q E h => ?_) (fun cdv A outer s H vs Q E hr calm h => ?_)
  · obtain ⟨x, d, rfl, _⟩ := h
    rfl
  · obtain ⟨x, d, rfl, th, ok, dn, k⟩ := h
    have r9 : Room 9 _ := hr.mono (by decide)
    have r10 : Room 10 _ := hr.mono (by decide)
    have r1 : Room 1 _ := hr.mono (by decide)
    have d60 : d.depth ≤ 60 := by omega
    have bk : d.bulk ≤ 100000 := Nat.le_trans ok.bulk (by decide)
    have tail : ∃ t, PSs (cxOf CX0 P w K mg base ["_law_thing", "_law_kept", "_law_cut", "_law_told"] "_law_right" (defScope s_right) f cdv A outer s H E).nox ((defBody s_right).drop 3) t ∧
        ∀ c, c = cutB d → t { nx := fun _ H' => Q .non H', rt := Q } [some x, some (.str d.shown), some (.bl c), none] H := by
      refine ⟨_, pss_cons (ps_set (i := 3) sc_right.nd rfl (Or.inl rfl) (pe_lst (pa_cons (pe_v (callR_fn G1 r9 calm g1 .nil pass0) (by rfl) D.g_is_change D.k_is_change (pa_cons (pv 0) pa_nil)) (pa_cons (pe_v (callR_fn G2 r10 calm g2 .nil pass0) (by rfl) D.g_is_entry D.k_is_entry (pa_cons (pv 0) pa_nil)) pa_nil))))
        (pss_one (ps_ret (pe_and (pe_cmpR op_eq (pe_callB (call_reprTh calm (hu_rep hr)) (by rfl) L.b_repr (by decide +kernel) (pa_cons (pv 3) pa_nil))
          (pe_callB (call_reprTh calm (hu_rep hr)) (by rfl) L.b_repr (by decide +kernel) (pa_cons (pe_lst (pa_cons (pe_v (callR_fn G3 hr calm g3 .nil pass0) (by rfl) L.g_change L.k_change (pa_cons (pv 0) pa_nil))
            (pa_cons (pe_or (pe_v (callR_fn G3 hr calm g3 .nil pass0) (by rfl) L.g_change L.k_change (pa_cons (pv 0) pa_nil)) (pe_one (pv 2))) pa_nil))) pa_nil)) (nomark _))
        (pe_one (pe_cmpR op_eq (pe_callB (call_reprTh calm (hu_rep hr)) (by rfl) L.b_repr (by decide +kernel) (pa_cons (pv 0) pa_nil)) (pv 1) (nomark _)))))), fun c hc => ?_⟩
      refine ⟨_, rfl, x, d, rfl, th, ok, fun H1 m1 => ⟨_, rfl, x, d, rfl, same_th m1 th, ok, fun H2 m2 => ⟨(by show 2 ≤ sizeLine; decide), fun p np => ?_⟩⟩⟩
      generalize hG : upd _ p _ = H3
      obtain ⟨m3, a3⟩ := newG hG np
      clear hG
      have m13 := (m1.trans m2).trans m3
      refine ⟨_, rfl, .ref p, .list [.bool (changeB d), .bool (entryB d)], rfl, .d (.lst (SqL.of a3) (.cons (.bl _) (.cons (.bl _) .nil))), fun _ => two_good _ _, (by simp [PyData.depth, PyData.depthAll]), (by simp [PyData.bulk, PyData.bulkAll]), ?_⟩
      refine ⟨_, rfl, x, d, rfl, same_th m13 th, ok, dn, fun H4 m4 => ⟨_, rfl, x, d, rfl, same_th (m13.trans m4) th, ok, dn, fun H5 m5 => ⟨_, rfl, ?_⟩⟩⟩
      have m15 := (m13.trans m4).trans m5
      refine ite2 (fun h1 => ?_) (fun h1 => ?_)
      · have e1 : entryB d = true := by rw [show entryB d = (changeB d || cutB d) from rfl, h1, Bool.true_or]
        refine ⟨(by show 2 ≤ sizeLine; decide), fun p2 np2 => ?_⟩
        refine ⟨.ref p2, .list [.bool (changeB d), .bool true], rfl, .d (.lst (SqL.of upd_same) (.cons (.bl _) (.cons (.bl _) .nil))), fun _ => two_good _ _, (by simp [PyData.depth, PyData.depthAll]), (by simp [PyData.bulk, PyData.bulkAll]), rfl, _, rfl, ?_⟩
        rw [e1, decide_eq_true rfl]
        have m6 := m15.trans (same_new (o := .lst [V.bl (changeB d), V.bl true]) np2)
        refine iteT ⟨_, rfl, x, d, rfl, same_th m6 th, ok.good, d60, bk, _, rfl, rfl, ?_⟩
        rw [decide_eq_true rfl]
        exact k _ m6
      · rw [Bool.not_eq_true] at h1
        have e1 : entryB d = c := by rw [show entryB d = (changeB d || cutB d) from rfl, h1, Bool.false_or, hc]
        refine ⟨_, rfl, (by show 2 ≤ sizeLine; decide), fun p2 np2 => ?_⟩
        refine ⟨.ref p2, .list [.bool (changeB d), .bool c], rfl, .d (.lst (SqL.of upd_same) (.cons (.bl _) (.cons (.bl _) .nil))), fun _ => two_good _ _, (by simp [PyData.depth, PyData.depthAll]), (by simp [PyData.bulk, PyData.bulkAll]), rfl, _, rfl, ?_⟩
        rw [e1, decide_eq_true rfl]
        have m6 := m15.trans (same_new (o := .lst [V.bl (changeB d), V.bl c]) np2)
        refine iteT ⟨_, rfl, x, d, rfl, same_th m6 th, ok.good, d60, bk, _, rfl, rfl, ?_⟩
        rw [decide_eq_true rfl]
        exact k _ m6
    obtain ⟨t, dt, rt⟩ := tail
    refine ⟨_, pss_cons (ps_set (i := 1) sc_right.nd rfl (Or.inl rfl) (pe_callB (call_reprTh calm (hu_rep hr)) (by rfl) L.b_repr (by decide +kernel) (pa_cons (pv 0) pa_nil)))
      (pss_cons (ps_set (i := 2) sc_right.nd rfl (Or.inl rfl) (pe_and (pe_callB call_isi (by rfl) T.b_isi (by decide +kernel) (pa_cons (pv 0) (pa_cons (pe_bltn (v := .ty "tuple") (by rfl) D.b_tuple (by decide +kernel) rfl) pa_nil)))
        (pe_and (pe_cmpR op_eq (pe_callB call_len_seq (by rfl) T.b_len PySem.boot_len (pa_cons (pv 0) pa_nil)) pe_int (nomark _)) (pe_one (pe_cmpR (op_eqD (hu_of' hr)) (pe_ix ix_tup (pv 0) pe_int (fun _ _ => rfl)) pe_str (nomark _))))))
      (pss_cons (ps_set (i := 2) sc_right.nd rfl (Or.inl rfl) (pe_and (pv 2) (pe_one (pe_v (callR_fn G4 r1 calm g4 .nil pass0) (by rfl) L.g_num L.k_num (pa_cons (pe_ix ix_tup (pv 0) pe_int (fun _ _ => rfl)) (pa_cons (pe_op op_pow pe_int pe_int) pa_nil)))))) dt)), ?_⟩
    refine ⟨_, rfl, x, d, rfl, th, ok.good, d60, bk, ?_⟩
    refine ⟨_, rfl, x, .ty "tuple", _, _, _, rfl, .ty _, th.ty, kit_ty (kit_tup d), _, rfl, ?_⟩
    cases hd : dTup d with
    | false => exact ⟨_, rfl, _, rfl, rt false (cut_flat hd).symm⟩
    | true =>
      cases d with
      | tuple ds =>
        obtain ⟨p, xs, rfl, sq, al⟩ := th_tup th
        have lx := dpAll_length al
        refine iteT ⟨_, rfl, p, xs, rfl, .inr sq, rfl, _, rfl, ?_⟩
        rw [show (2 : Int) = ((2 : Nat) : Int) from rfl, len_eq]
        refine ite2 (fun h2 => ?_) (fun h2 => ?_)
        · have h2' : xs.length = 2 := of_decide_eq_true h2
          cases al with
          | nil => simp at h2'
          | @cons v vs e es' a1 a2 =>
            cases a2 with
            | nil => simp at h2'
            | @cons v2 vs2 e2 es2 a3 a4 =>
              cases a4 with
              | cons _ _ => simp at h2'
              | nil =>
                have oke : Ok e := ok.item (List.mem_cons_self ..)
                have oke2 : Ok e2 := ok.item (List.mem_cons_of_mem _ (List.mem_cons_self ..))
                have ge : Hv.good e = true := (goodAll_iff _).mp (by have := ok.good (fun e => nomatch e); simpa only [Hv.good] using this) e (List.mem_cons_self ..)
                refine ⟨_, rfl, p, _, 0, v, rfl, rfl, sq, atI_nat (by rfl), e, .str "cut back", a1, .str _, good_shaped ge (by have := oke.deep; omega), good_shaped (by decide +kernel) (by decide +kernel), ?_⟩
                rw [eqv_str]
                rw [cut_two'] at rt
                cases hs : decide (dStr e = some (Str.ofString "cut back")) with
                | false => exact ⟨_, rfl, _, rfl, rt false (by rw [hs]; rfl)⟩
                | true =>
                  refine ⟨_, rfl, _, rfl, ?_⟩
                  refine iteT ⟨_, rfl, p, _, 1, v2, rfl, rfl, sq, atI_nat (by rfl), ?_⟩
                  walk_at "rd"
                  refine ⟨v2, e2, _, rfl, .d a3, rt _ ?_⟩
                  rw [hs, Bool.true_and]
                  exact ok_num oke2
        · exact ⟨_, rfl, _, rfl, rt false (cut_many (by rw [← lx]; exact fun e => h2 (decide_eq_true e))).symm⟩
      | _ => cases hd
end
end K4
end

section
open PySem PySem.Spec PyProof.Rows L2 Hv
local macro_rules | `(tactic| walk_at "rd") => `(tactic| repeat (first
  | refine ⟨_, rfl, ?_⟩
  | refine ⟨_, _, rfl, rfl, ?_⟩
  | refine ⟨_, _, rfl, ?_⟩
  | refine And.intro (show CPow _ _ from ⟨by decide, by decide, by decide⟩) ?_))
namespace K4
/-- a thing that every look bears -/
def Gd (K : PySem.W.Frag) (H : Hp) (x : V) : Prop := ∃ d, Th K H x d ∧ Ok d ∧ d.depth ≤ 20
theorem gd_same {K : PySem.W.Frag} {H H' : Hp} {x : V} (s : Same H H') (h : Gd K H x) : Gd K H' x := let ⟨d, a, b, c⟩ := h; ⟨d, same_th s a, b, c⟩
theorem gd_fine {K : PySem.W.Frag} {H : Hp} {x : V} {d : PyData} {k n : Nat} (h : Dp K H x d) (g : Fine k n d) (a : k ≤ 20) (b : n ≤ 90000) : Gd K H x := ⟨d, .d h, g.ok (Nat.le_trans a (by decide)) b, Nat.le_trans g.deep a⟩
theorem gd_dp {K : PySem.W.Frag} {H : Hp} {x : V} {d : PyData} (h : Dp K H x d) (g : (good d && decide (d.depth ≤ 20) && decide (d.bulk ≤ 90000)) = true) : Gd K H x := by
  simp only [Bool.and_eq_true, decide_eq_true_iff] at g
  exact gd_fine h ⟨g.1.1, g.1.2, g.2⟩ (Nat.le_refl _) (Nat.le_refl _)
theorem fine_of {k n : Nat} {d : PyData} (g : (good d && decide (d.depth ≤ k) && decide (d.bulk ≤ n)) = true) : Fine k n d := by
  simp only [Bool.and_eq_true, decide_eq_true_iff] at g
  exact ⟨g.1.1, g.1.2, g.2⟩
theorem gd_emp {K : PySem.W.Frag} {H : Hp} {a : Addr} (h : H a = some (.dK [])) : Gd K H (.ref a) :=
  ⟨.dict [], .emp h, ⟨fun e => absurd rfl e, by simp [PyData.depth, PyData.depthKv], by simp [PyData.bulk, PyData.bulkKv]⟩, by simp [PyData.depth, PyData.depthKv]⟩
theorem dp_rep {K : PySem.W.Frag} {H : Hp} {xs : List V} {ds : List PyData} : ∀ n : Nat, DpAll K H xs ds → DpAll K H (List.replicate n xs).flatten (List.replicate n ds).flatten
  | 0, _ => .nil
  | n + 1, h => by
    rw [List.replicate_succ, List.replicate_succ, List.flatten_cons, List.flatten_cons]
    exact dpAll_append h (dp_rep n h)
theorem hx_fresh {p : Addr} {H H' : Hp} (n : H p = none) (s : Same H H') : Same H (Hx p H') := fun b o e => hx_at (ne_of_none e n) (s b o e)
theorem okG_shape {d : PyData} (h : okG d = true) : ∃ z r, d = .tuple (.str z :: r) ∧ Fine 3 100 d ∧ r.length ≤ 4 := by
  unfold okG at h
  simp only [Bool.and_eq_true, decide_eq_true_iff] at h
  obtain ⟨⟨⟨g, dd⟩, bb⟩, m⟩ := h
  split at m
  · simp only [Bool.and_eq_true, decide_eq_true_iff] at m
    exact ⟨_, _, rfl, ⟨g, dd, bb⟩, m.2⟩
  · cases m
abbrev s_law : Stmt := top 42
theorem sc_law : FnScope ["_law_script", "_law_some", "_law_what", "_law_thing", "_law_k", "_law_state", "_law_one"] ["_law_script"] (defScope s_law) :=
  ⟨rfl, rfl, rfl, by decide +kernel, rfl, by decide +kernel, by decide +kernel⟩
def spLaw (K : PySem.W.Frag) : Sp := fun vs H Q _ => ∃ (q : Addr) (ns : List Int), vs = [.ref q] ∧ SqL K H q (ns.map V.int) ∧ ns.length ≤ 63 ∧ ∀ H', Q (.bl true) H'
section
variable {P : Program} {w : World} {K : PySem.W.Frag} {mg : Str → Option Value} {base : Heap} {a : Ad} {b : Bd} {c : Cd}
theorem ok_law {f : Addr} {fd f1 f2 f4 f5 : FuncData} (F : Fun K "law" "law" s_law f fd) (T : Txt K mg a) (L : TxtE K mg c)
    (G1 : Keeps P w K mg base CX0 1 c.begun f1 ["_law_script", "_law_k"] (spBegun K)) (b1 : Binds K f1 ["_law_script", "_law_k"] [])
    (G2 : Keeps P w K mg base CX0 2 c.good f2 ["_law_state"] (spGood K)) (b2 : Binds K f2 ["_law_state"] [])
    (G4 : Keeps P w K mg base CX0 2 c.bent f4 ["_law_state", "_law_one"] (spBent K)) (b4 : Binds K f4 ["_law_state", "_law_one"] [])
    (G5 : Keeps P w K mg base CX0 25 c.right f5 ["_law_thing"] (spRight K)) (b5 : Binds K f5 ["_law_thing"] []) :
    Keeps P w K mg base CX0 26 f fd ["_law_script"] (spLaw K) := by
  refine keeps0 F sc_law (fun vs H Q E h => ?_) (fun cdv A outer s H vs Q E hr calm h => ?_)
  · obtain ⟨q, ns, rfl, _⟩ := h
    rfl
  · obtain ⟨q, ns, rfl, sq, few, k⟩ := h
    have r1 : Room 1 _ := hr.mono (by decide)
    have r2 : Room 2 _ := hr.mono (by decide)
    refine ⟨_, pss_cons (ps_set (i := 1) sc_law.nd rfl (Or.inl rfl) (pe_lst (pa_cons (pe_tup (pa_cons pe_str (pa_cons (pe_op op_repT (pe_tup (pa_cons (pe_tup (pa_cons pe_str (pa_cons pe_int (pa_cons pe_int pa_nil)))) pa_nil)) pe_int) pa_nil))) (pa_cons (pe_tup (pa_cons pe_str (pa_cons (pe_op op_repT (pe_tup (pa_cons (pe_tup (pa_cons pe_str (pa_cons pe_int (pa_cons pe_int pa_nil)))) pa_nil)) pe_int) pa_nil))) (pa_cons (pe_tup (pa_cons pe_str (pa_cons pe_int pa_nil))) (pa_cons (pe_tup (pa_cons pe_str (pa_cons (pe_un un_neg pe_int) pa_nil))) pa_nil))))))
      (pss_cons (ps_set (i := 1) sc_law.nd rfl (Or.inl rfl) (pe_op op_cat (pv 1) (pe_lst (pa_cons (pe_tup (pa_cons pe_str (pa_cons pe_bl pa_nil))) (pa_cons (pe_tup (pa_cons pe_str pa_nil)) (pa_cons pe_non (pa_cons (pe_tup pa_nil) (pa_cons (pe_lst pa_nil) (pa_cons pe_dnewK (pa_cons pe_str (pa_cons (pe_tup (pa_cons pe_str (pa_cons (pe_tup (pa_cons (pe_tup pa_nil) pa_nil)) pa_nil))) pa_nil)))))))))))
      (pss_cons (ps_set (i := 1) sc_law.nd rfl (Or.inl rfl) (pe_op op_cat (pv 1) (pe_lst (pa_cons (pe_tup (pa_cons pe_str (pa_cons pe_int (pa_cons pe_int (pa_cons (pe_op op_mulS pe_str pe_int) pa_nil))))) (pa_cons (pe_tup (pa_cons pe_str (pa_cons pe_int (pa_cons pe_int (pa_cons pe_str pa_nil))))) (pa_cons (pe_tup (pa_cons pe_str (pa_cons pe_int pa_nil))) (pa_cons (pe_tup (pa_cons pe_str (pa_cons (pe_op op_pow pe_int pe_int) pa_nil))) pa_nil)))))))
      (pss_cons (ps_set (i := 1) sc_law.nd rfl (Or.inl rfl) (pe_op op_cat (pv 1) (pe_lst (pa_cons (pe_tup (pa_cons pe_str (pa_cons pe_int (pa_cons pe_str pa_nil)))) (pa_cons (pe_tup (pa_cons pe_str (pa_cons pe_int (pa_cons pe_str pa_nil)))) (pa_cons (pe_tup (pa_cons pe_str (pa_cons (pe_op op_pow pe_int pe_int) (pa_cons pe_str (pa_cons pe_int pa_nil))))) (pa_cons (pe_tup (pa_cons pe_str (pa_cons pe_int (pa_cons pe_int pa_nil)))) pa_nil)))))))
      (pss_cons (ps_for PassesOwn.never rfl (pi_list (pe_lst (pa_cons (pe_tup (pa_cons pe_str (pa_cons pe_str pa_nil))) (pa_cons (pe_tup (pa_cons pe_str (pa_cons pe_non pa_nil))) (pa_cons (pe_tup (pa_cons pe_str (pa_cons pe_str (pa_cons pe_str pa_nil)))) (pa_cons (pe_tup (pa_cons pe_str pa_nil)) (pa_cons (pe_tup (pa_cons pe_str pa_nil)) (pa_cons pe_str (pa_cons (pe_tup pa_nil) pa_nil))))))))) (pg_name (i := 2) sc_law.nd rfl (Or.inl rfl))
        (pss_one (ps_expr (pe_bm PySem.F.plainAttrs_list PySem.F.slot_list_append PySem.F.type_list_append mt_append (pv 1) (pa_cons (pe_tup (pa_cons pe_str (pa_cons pe_int (pa_cons pe_str (pa_cons pe_int (pa_cons (pv 2) pa_nil)))))) pa_nil)))))
      (pss_cons (ps_if (pt_cmpR (op_neD (hu_of' hr))
          (pe_lc (own := [("_law_thing", 3)]) (g := gName 3) rfl sc_law.nd (pi_list (pv 1)) (blkOk_by (N := ["_law_script", "_law_some", "_law_what", "_law_thing", "_law_k", "_law_state", "_law_one"]) (sc := defScope s_law) (by decide +kernel))
          (fun _ _ _ _ _ => pg_name (i := 3) sc_law.nd rfl (Or.inl rfl)) (fun _ _ _ _ _ => pts_one (pt_not (pt_val (pe_v (callR_fn G5 hr calm b5 .nil pass0) (by rfl) L.g_right L.k_right (pa_cons (pv 3) pa_nil))))) (fun _ _ _ _ _ => pv 3)) (pe_lst pa_nil) (nomark _)) (pss_one (ps_ret pe_bl)) pss_nil)
      (pss_cons (ps_for PassesOwn.never rfl (pi_range1 (by rfl) L.b_range (pa_cons (pe_callB (call_max2 rfl) (by rfl) L.b_max (by decide +kernel) (pa_cons pe_int (pa_cons (pe_callB (call_min2 rfl) (by rfl) L.b_min (by decide +kernel) (pa_cons pe_int (pa_cons (pe_callB call_len_seq (by rfl) T.b_len PySem.boot_len (pa_cons (pv 0) pa_nil)) pa_nil))) pa_nil))) pa_nil)) (pg_name (i := 4) sc_law.nd rfl (Or.inl rfl))
        (pss_cons (ps_set (i := 5) sc_law.nd rfl (Or.inl rfl) (pe_v (callR_fn G1 r1 calm b1 .nil pass0) (by rfl) L.g_begun L.k_begun (pa_cons (pv 0) (pa_cons (pv 4) pa_nil))))
        (pss_one (ps_for PassesOwn.never rfl (pi_list (pe_v (callR_fn G2 r2 calm b2 .nil pass0) (by rfl) L.g_good L.k_good (pa_cons (pv 5) pa_nil))) (pg_name (i := 6) sc_law.nd rfl (Or.inl rfl))
          (pss_one (ps_for PassesOwn.never rfl (pi_list (pe_lst (pa_cons (pv 6) (pa_cons (pe_tup (pa_cons pe_str (pa_cons (pe_tup (pa_cons (pv 6) (pa_cons (pv 6) pa_nil))) pa_nil)))
              (pa_cons (pe_v (callR_fn G4 r2 calm b4 .nil pass0) (by rfl) L.g_bent L.k_bent (pa_cons (pv 5) (pa_cons (pv 6) pa_nil))) (pa_cons (pe_v (callR_fn G4 r2 calm b4 .nil pass0) (by rfl) L.g_bent L.k_bent (pa_cons (pv 5) (pa_cons (pv 6) pa_nil))) pa_nil)))))) (pg_name (i := 3) sc_law.nd rfl (Or.inl rfl))
            (pss_one (ps_if (pt_not (pt_val (pe_v (callR_fn G5 hr calm b5 .nil pass0) (by rfl) L.g_right L.k_right (pa_cons (pv 3) pa_nil)))) (pss_one (ps_ret pe_bl)) pss_nil))))))))
      (pss_one (ps_ret pe_bl)))))))), ?_⟩
    refine ⟨(by show 3 ≤ sizeLine; decide), fun a1 z1 => ?_⟩
    generalize hG : upd _ a1 _ = J1
    obtain ⟨m1, x1⟩ := newG hG z1
    clear hG
    refine ⟨(by show 1 ≤ sizeLine; decide), fun a2 z2 => ?_⟩
    generalize hG : upd _ a2 _ = J2
    obtain ⟨m2, x2⟩ := newG hG z2
    clear hG
    refine ⟨a2, 200, _, rfl, rfl, .inl (.inl x2), (by simp), (by decide), (by decide), (by show 1 ≤ 1000; decide), fun a3 z3 => ?_⟩
    generalize hG : upd _ a3 _ = J3
    obtain ⟨m3, x3⟩ := newG hG z3
    clear hG
    refine ⟨(by show 2 ≤ sizeLine; decide), fun a4 z4 => ?_⟩
    generalize hG : upd _ a4 _ = J4
    obtain ⟨m4, x4⟩ := newG hG z4
    clear hG
    refine ⟨(by show 3 ≤ sizeLine; decide), fun a5 z5 => ?_⟩
    generalize hG : upd _ a5 _ = J5
    obtain ⟨m5, x5⟩ := newG hG z5
    clear hG
    refine ⟨(by show 1 ≤ sizeLine; decide), fun a6 z6 => ?_⟩
    generalize hG : upd _ a6 _ = J6
    obtain ⟨m6, x6⟩ := newG hG z6
    clear hG
    refine ⟨a6, 201, _, rfl, rfl, .inl (.inl x6), (by simp), (by decide), (by decide), (by show 1 ≤ 1000; decide), fun a7 z7 => ?_⟩
    generalize hG : upd _ a7 _ = J7
    obtain ⟨m7, x7⟩ := newG hG z7
    clear hG
    refine ⟨(by show 2 ≤ sizeLine; decide), fun a8 z8 => ?_⟩
    generalize hG : upd _ a8 _ = J8
    obtain ⟨m8, x8⟩ := newG hG z8
    clear hG
    refine ⟨(by show 2 ≤ sizeLine; decide), fun a9 z9 => ?_⟩
    generalize hG : upd _ a9 _ = J9
    obtain ⟨m9, x9⟩ := newG hG z9
    clear hG
    walk_at "rd"
    refine ⟨(by show 2 ≤ sizeLine; decide), fun a10 z10 => ?_⟩
    generalize hG : upd _ a10 _ = J10
    obtain ⟨m10, x10⟩ := newG hG z10
    clear hG
    refine ⟨(by show 4 ≤ sizeLine; decide), fun a11 z11 => ?_⟩
    generalize hG : upd _ a11 _ = J11
    obtain ⟨m11, x11⟩ := newG hG z11
    clear hG
    refine ⟨_, rfl, ?_⟩
    refine ⟨(by show 2 ≤ sizeLine; decide), fun a12 z12 => ?_⟩
    generalize hG : upd _ a12 _ = J12
    obtain ⟨m12, x12⟩ := newG hG z12
    clear hG
    refine ⟨(by show 1 ≤ sizeLine; decide), fun a13 z13 => ?_⟩
    generalize hG : upd _ a13 _ = J13
    obtain ⟨m13, x13⟩ := newG hG z13
    clear hG
    refine ⟨(by show 0 ≤ sizeLine; decide), fun a14 z14 => ?_⟩
    generalize hG : upd _ a14 _ = J14
    obtain ⟨m14, x14⟩ := newG hG z14
    clear hG
    refine ⟨(by show 0 ≤ sizeLine; decide), fun a15 z15 => ?_⟩
    generalize hG : upd _ a15 _ = J15
    obtain ⟨m15, x15⟩ := newG hG z15
    clear hG
    refine  fun a16 z16 => ?_
    generalize hG : upd _ a16 _ = J16
    obtain ⟨m16, x16⟩ := newG hG z16
    clear hG
    refine ⟨(by show 0 ≤ sizeLine; decide), fun a17 z17 => ?_⟩
    generalize hG : upd _ a17 _ = J17
    obtain ⟨m17, x17⟩ := newG hG z17
    clear hG
    refine ⟨(by show 1 ≤ sizeLine; decide), fun a18 z18 => ?_⟩
    generalize hG : upd _ a18 _ = J18
    obtain ⟨m18, x18⟩ := newG hG z18
    clear hG
    refine ⟨(by show 2 ≤ sizeLine; decide), fun a19 z19 => ?_⟩
    generalize hG : upd _ a19 _ = J19
    obtain ⟨m19, x19⟩ := newG hG z19
    clear hG
    refine ⟨(by show 8 ≤ sizeLine; decide), fun a20 z20 => ?_⟩
    generalize hG : upd _ a20 _ = J20
    obtain ⟨m20, x20⟩ := newG hG z20
    clear hG
    refine ⟨a11, a20, _, _, rfl, rfl, (m20 _ _ (m19 _ _ (m18 _ _ (m17 _ _ (m16 _ _ (m15 _ _ (m14 _ _ (m13 _ _ (m12 _ _ x11))))))))), x20, (by show 4 + 8 ≤ sizeLine; decide), fun a21 z21 => ?_⟩
    generalize hG : upd _ a21 _ = J21
    obtain ⟨m21, x21⟩ := newG hG z21
    clear hG
    refine ⟨_, rfl, ?_⟩
    refine ⟨_, _, rfl, rfl, (by unfold PySem.MulOk; decide +kernel), ?_⟩
    refine ⟨(by show 4 ≤ sizeLine; decide), fun a22 z22 => ?_⟩
    generalize hG : upd _ a22 _ = J22
    obtain ⟨m22, x22⟩ := newG hG z22
    clear hG
    refine ⟨(by show 4 ≤ sizeLine; decide), fun a23 z23 => ?_⟩
    generalize hG : upd _ a23 _ = J23
    obtain ⟨m23, x23⟩ := newG hG z23
    clear hG
    refine ⟨(by show 2 ≤ sizeLine; decide), fun a24 z24 => ?_⟩
    generalize hG : upd _ a24 _ = J24
    obtain ⟨m24, x24⟩ := newG hG z24
    clear hG
    walk_at "rd"
    refine ⟨(by show 2 ≤ sizeLine; decide), fun a25 z25 => ?_⟩
    generalize hG : upd _ a25 _ = J25
    obtain ⟨m25, x25⟩ := newG hG z25
    clear hG
    refine ⟨(by show 4 ≤ sizeLine; decide), fun a26 z26 => ?_⟩
    generalize hG : upd _ a26 _ = J26
    obtain ⟨m26, x26⟩ := newG hG z26
    clear hG
    refine ⟨a21, a26, _, _, rfl, rfl, (m26 _ _ (m25 _ _ (m24 _ _ (m23 _ _ (m22 _ _ x21))))), x26, (by show 12 + 4 ≤ sizeLine; decide), fun a27 z27 => ?_⟩
    generalize hG : upd _ a27 _ = J27
    obtain ⟨m27, x27⟩ := newG hG z27
    clear hG
    refine ⟨_, rfl, ?_⟩
    refine ⟨(by show 3 ≤ sizeLine; decide), fun a28 z28 => ?_⟩
    generalize hG : upd _ a28 _ = J28
    obtain ⟨m28, x28⟩ := newG hG z28
    clear hG
    refine ⟨(by show 3 ≤ sizeLine; decide), fun a29 z29 => ?_⟩
    generalize hG : upd _ a29 _ = J29
    obtain ⟨m29, x29⟩ := newG hG z29
    clear hG
    walk_at "rd"
    refine ⟨(by show 4 ≤ sizeLine; decide), fun a30 z30 => ?_⟩
    generalize hG : upd _ a30 _ = J30
    obtain ⟨m30, x30⟩ := newG hG z30
    clear hG
    refine ⟨(by show 3 ≤ sizeLine; decide), fun a31 z31 => ?_⟩
    generalize hG : upd _ a31 _ = J31
    obtain ⟨m31, x31⟩ := newG hG z31
    clear hG
    refine ⟨(by show 4 ≤ sizeLine; decide), fun a32 z32 => ?_⟩
    generalize hG : upd _ a32 _ = J32
    obtain ⟨m32, x32⟩ := newG hG z32
    clear hG
    refine ⟨a27, a32, _, _, rfl, rfl, (m32 _ _ (m31 _ _ (m30 _ _ (m29 _ _ (m28 _ _ x27))))), x32, (by show 16 + 4 ≤ sizeLine; decide), fun a33 z33 => ?_⟩
    generalize hG : upd _ a33 _ = J33
    obtain ⟨m33, x33⟩ := newG hG z33
    clear hG
    have gd0 : ∀ v ∈ ((([V.ref a4, V.ref a8, V.ref a9, V.ref a10] ++ [V.ref a12, V.ref a13, V.non, V.ref a14, V.ref a15, V.ref a16, V.str "cut back", V.ref a19]) ++ [V.ref a22, V.ref a23, V.ref a24, V.ref a25]) ++ [V.ref a28, V.ref a29, V.ref a30, V.ref a31]), Gd K J32 v := by
      intro v hv
      simp only [List.cons_append, List.nil_append, List.mem_cons, List.not_mem_nil, or_false] at hv
      rcases hv with e | e | e | e | e | e | e | e | e | e | e | e | e | e | e | e | e | e | e | e
      · rw [e]; exact (gd_dp (d := (.tuple [(.str "all"), (.tuple (List.replicate 200 [(.tuple [(.str "cut"), (.int 0), (.int 0)])]).flatten)])) (.tup (.inl (.inl (m32 _ _ (m31 _ _ (m30 _ _ (m29 _ _ (m28 _ _ (m27 _ _ (m26 _ _ (m25 _ _ (m24 _ _ (m23 _ _ (m22 _ _ (m21 _ _ (m20 _ _ (m19 _ _ (m18 _ _ (m17 _ _ (m16 _ _ (m15 _ _ (m14 _ _ (m13 _ _ (m12 _ _ (m11 _ _ (m10 _ _ (m9 _ _ (m8 _ _ (m7 _ _ (m6 _ _ (m5 _ _ x4)))))))))))))))))))))))))))))) (.cons (.str _) (.cons (.tup (.inl (.inl (m32 _ _ (m31 _ _ (m30 _ _ (m29 _ _ (m28 _ _ (m27 _ _ (m26 _ _ (m25 _ _ (m24 _ _ (m23 _ _ (m22 _ _ (m21 _ _ (m20 _ _ (m19 _ _ (m18 _ _ (m17 _ _ (m16 _ _ (m15 _ _ (m14 _ _ (m13 _ _ (m12 _ _ (m11 _ _ (m10 _ _ (m9 _ _ (m8 _ _ (m7 _ _ (m6 _ _ (m5 _ _ (m4 _ _ x3))))))))))))))))))))))))))))))) (dp_rep 200 (.cons (.tup (.inl (.inl (m32 _ _ (m31 _ _ (m30 _ _ (m29 _ _ (m28 _ _ (m27 _ _ (m26 _ _ (m25 _ _ (m24 _ _ (m23 _ _ (m22 _ _ (m21 _ _ (m20 _ _ (m19 _ _ (m18 _ _ (m17 _ _ (m16 _ _ (m15 _ _ (m14 _ _ (m13 _ _ (m12 _ _ (m11 _ _ (m10 _ _ (m9 _ _ (m8 _ _ (m7 _ _ (m6 _ _ (m5 _ _ (m4 _ _ (m3 _ _ (m2 _ _ x1))))))))))))))))))))))))))))))))) (.cons (.str _) (.cons (.int _) (.cons (.int _) .nil)))) .nil))) .nil))) (by decide +kernel))
      · rw [e]; exact (gd_dp (d := (.tuple [(.str "all"), (.tuple (List.replicate 201 [(.tuple [(.str "cut"), (.int 0), (.int 0)])]).flatten)])) (.tup (.inl (.inl (m32 _ _ (m31 _ _ (m30 _ _ (m29 _ _ (m28 _ _ (m27 _ _ (m26 _ _ (m25 _ _ (m24 _ _ (m23 _ _ (m22 _ _ (m21 _ _ (m20 _ _ (m19 _ _ (m18 _ _ (m17 _ _ (m16 _ _ (m15 _ _ (m14 _ _ (m13 _ _ (m12 _ _ (m11 _ _ (m10 _ _ (m9 _ _ x8)))))))))))))))))))))))))) (.cons (.str _) (.cons (.tup (.inl (.inl (m32 _ _ (m31 _ _ (m30 _ _ (m29 _ _ (m28 _ _ (m27 _ _ (m26 _ _ (m25 _ _ (m24 _ _ (m23 _ _ (m22 _ _ (m21 _ _ (m20 _ _ (m19 _ _ (m18 _ _ (m17 _ _ (m16 _ _ (m15 _ _ (m14 _ _ (m13 _ _ (m12 _ _ (m11 _ _ (m10 _ _ (m9 _ _ (m8 _ _ x7))))))))))))))))))))))))))) (dp_rep 201 (.cons (.tup (.inl (.inl (m32 _ _ (m31 _ _ (m30 _ _ (m29 _ _ (m28 _ _ (m27 _ _ (m26 _ _ (m25 _ _ (m24 _ _ (m23 _ _ (m22 _ _ (m21 _ _ (m20 _ _ (m19 _ _ (m18 _ _ (m17 _ _ (m16 _ _ (m15 _ _ (m14 _ _ (m13 _ _ (m12 _ _ (m11 _ _ (m10 _ _ (m9 _ _ (m8 _ _ (m7 _ _ (m6 _ _ x5))))))))))))))))))))))))))))) (.cons (.str _) (.cons (.int _) (.cons (.int _) .nil)))) .nil))) .nil))) (by decide +kernel))
      · rw [e]; exact (gd_dp (d := (.tuple [(.str "cut back"), (.int 0)])) (.tup (.inl (.inl (m32 _ _ (m31 _ _ (m30 _ _ (m29 _ _ (m28 _ _ (m27 _ _ (m26 _ _ (m25 _ _ (m24 _ _ (m23 _ _ (m22 _ _ (m21 _ _ (m20 _ _ (m19 _ _ (m18 _ _ (m17 _ _ (m16 _ _ (m15 _ _ (m14 _ _ (m13 _ _ (m12 _ _ (m11 _ _ (m10 _ _ x9))))))))))))))))))))))))) (.cons (.str _) (.cons (.int _) .nil))) (by decide +kernel))
      · rw [e]; exact (gd_dp (d := (.tuple [(.str "cut back"), (.int (-1))])) (.tup (.inl (.inl (m32 _ _ (m31 _ _ (m30 _ _ (m29 _ _ (m28 _ _ (m27 _ _ (m26 _ _ (m25 _ _ (m24 _ _ (m23 _ _ (m22 _ _ (m21 _ _ (m20 _ _ (m19 _ _ (m18 _ _ (m17 _ _ (m16 _ _ (m15 _ _ (m14 _ _ (m13 _ _ (m12 _ _ (m11 _ _ x10)))))))))))))))))))))))) (.cons (.str _) (.cons (.int _) .nil))) (by decide +kernel))
      · rw [e]; exact (gd_dp (d := (.tuple [(.str "cut back"), (.bool true)])) (.tup (.inl (.inl (m32 _ _ (m31 _ _ (m30 _ _ (m29 _ _ (m28 _ _ (m27 _ _ (m26 _ _ (m25 _ _ (m24 _ _ (m23 _ _ (m22 _ _ (m21 _ _ (m20 _ _ (m19 _ _ (m18 _ _ (m17 _ _ (m16 _ _ (m15 _ _ (m14 _ _ (m13 _ _ x12)))))))))))))))))))))) (.cons (.str _) (.cons (.bl _) .nil))) (by decide +kernel))
      · rw [e]; exact (gd_dp (d := (.tuple [(.str "cut back")])) (.tup (.inl (.inl (m32 _ _ (m31 _ _ (m30 _ _ (m29 _ _ (m28 _ _ (m27 _ _ (m26 _ _ (m25 _ _ (m24 _ _ (m23 _ _ (m22 _ _ (m21 _ _ (m20 _ _ (m19 _ _ (m18 _ _ (m17 _ _ (m16 _ _ (m15 _ _ (m14 _ _ x13))))))))))))))))))))) (.cons (.str _) .nil)) (by decide +kernel))
      · rw [e]; exact (gd_dp (d := .none) .non (by decide +kernel))
      · rw [e]; exact (gd_dp (d := (.tuple [])) (.tup (.inl (.inl (m32 _ _ (m31 _ _ (m30 _ _ (m29 _ _ (m28 _ _ (m27 _ _ (m26 _ _ (m25 _ _ (m24 _ _ (m23 _ _ (m22 _ _ (m21 _ _ (m20 _ _ (m19 _ _ (m18 _ _ (m17 _ _ (m16 _ _ (m15 _ _ x14)))))))))))))))))))) .nil) (by decide +kernel))
      · rw [e]; exact (gd_dp (d := (.list [])) (.lst (.inl (.inl (m32 _ _ (m31 _ _ (m30 _ _ (m29 _ _ (m28 _ _ (m27 _ _ (m26 _ _ (m25 _ _ (m24 _ _ (m23 _ _ (m22 _ _ (m21 _ _ (m20 _ _ (m19 _ _ (m18 _ _ (m17 _ _ (m16 _ _ x15))))))))))))))))))) .nil) (by decide +kernel))
      · rw [e]; exact (gd_emp (m32 _ _ (m31 _ _ (m30 _ _ (m29 _ _ (m28 _ _ (m27 _ _ (m26 _ _ (m25 _ _ (m24 _ _ (m23 _ _ (m22 _ _ (m21 _ _ (m20 _ _ (m19 _ _ (m18 _ _ (m17 _ _ x16)))))))))))))))))
      · rw [e]; exact (gd_dp (d := (.str "cut back")) (.str _) (by decide +kernel))
      · rw [e]; exact (gd_dp (d := (.tuple [(.str "all"), (.tuple [(.tuple [])])])) (.tup (.inl (.inl (m32 _ _ (m31 _ _ (m30 _ _ (m29 _ _ (m28 _ _ (m27 _ _ (m26 _ _ (m25 _ _ (m24 _ _ (m23 _ _ (m22 _ _ (m21 _ _ (m20 _ _ x19))))))))))))))) (.cons (.str _) (.cons (.tup (.inl (.inl (m32 _ _ (m31 _ _ (m30 _ _ (m29 _ _ (m28 _ _ (m27 _ _ (m26 _ _ (m25 _ _ (m24 _ _ (m23 _ _ (m22 _ _ (m21 _ _ (m20 _ _ (m19 _ _ x18)))))))))))))))) (.cons (.tup (.inl (.inl (m32 _ _ (m31 _ _ (m30 _ _ (m29 _ _ (m28 _ _ (m27 _ _ (m26 _ _ (m25 _ _ (m24 _ _ (m23 _ _ (m22 _ _ (m21 _ _ (m20 _ _ (m19 _ _ (m18 _ _ x17))))))))))))))))) .nil) .nil)) .nil))) (by decide +kernel))
      · rw [e]; exact (gd_dp (d := (.tuple [(.str "write"), (.int 0), (.int 0), (.str (Txt.mul (Str.ofString "x") 201))])) (.tup (.inl (.inl (m32 _ _ (m31 _ _ (m30 _ _ (m29 _ _ (m28 _ _ (m27 _ _ (m26 _ _ (m25 _ _ (m24 _ _ (m23 _ _ x22)))))))))))) (.cons (.str _) (.cons (.int _) (.cons (.int _) (.cons (.str _) .nil))))) (by decide +kernel))
      · rw [e]; exact (gd_dp (d := (.tuple [(.str "write"), (.int 0), (.int 0), (.str " #$&~`|{}")])) (.tup (.inl (.inl (m32 _ _ (m31 _ _ (m30 _ _ (m29 _ _ (m28 _ _ (m27 _ _ (m26 _ _ (m25 _ _ (m24 _ _ x23))))))))))) (.cons (.str _) (.cons (.int _) (.cons (.int _) (.cons (.str _) .nil))))) (by decide +kernel))
      · rw [e]; exact (gd_dp (d := (.tuple [(.str "cut back"), (.int 5)])) (.tup (.inl (.inl (m32 _ _ (m31 _ _ (m30 _ _ (m29 _ _ (m28 _ _ (m27 _ _ (m26 _ _ (m25 _ _ x24)))))))))) (.cons (.str _) (.cons (.int _) .nil))) (by decide +kernel))
      · rw [e]; exact (gd_dp (d := (.tuple [(.str "cut back"), (.int (10 ^ 20))])) (.tup (.inl (.inl (m32 _ _ (m31 _ _ (m30 _ _ (m29 _ _ (m28 _ _ (m27 _ _ (m26 _ _ x25))))))))) (.cons (.str _) (.cons (.int _) .nil))) (by decide +kernel))
      · rw [e]; exact (gd_dp (d := (.tuple [(.str "strike"), (.int 0), (.str "ijklmnop")])) (.tup (.inl (.inl (m32 _ _ (m31 _ _ (m30 _ _ (m29 _ _ x28)))))) (.cons (.str _) (.cons (.int _) (.cons (.str _) .nil)))) (by decide +kernel))
      · rw [e]; exact (gd_dp (d := (.tuple [(.str "strike"), (.int 0), (.str "qrstuvwx")])) (.tup (.inl (.inl (m32 _ _ (m31 _ _ (m30 _ _ x29))))) (.cons (.str _) (.cons (.int _) (.cons (.str _) .nil)))) (by decide +kernel))
      · rw [e]; exact (gd_dp (d := (.tuple [(.str "name"), (.int (10 ^ 20)), (.str "yz"), (.int 0)])) (.tup (.inl (.inl (m32 _ _ (m31 _ _ x30)))) (.cons (.str _) (.cons (.int _) (.cons (.str _) (.cons (.int _) .nil))))) (by decide +kernel))
      · rw [e]; exact (gd_dp (d := (.tuple [(.str "mark"), (.int 0), (.int 1000)])) (.tup (.inl (.inl (m32 _ _ x31))) (.cons (.str _) (.cons (.int _) (.cons (.int _) .nil)))) (by decide +kernel))
    refine ⟨(by show 2 ≤ sizeLine; decide), fun a34 z34 => ?_⟩
    generalize hG : upd _ a34 _ = J34
    obtain ⟨m34, x34⟩ := newG hG z34
    clear hG
    refine ⟨(by show 2 ≤ sizeLine; decide), fun a35 z35 => ?_⟩
    generalize hG : upd _ a35 _ = J35
    obtain ⟨m35, x35⟩ := newG hG z35
    clear hG
    refine ⟨(by show 3 ≤ sizeLine; decide), fun a36 z36 => ?_⟩
    generalize hG : upd _ a36 _ = J36
    obtain ⟨m36, x36⟩ := newG hG z36
    clear hG
    refine ⟨(by show 1 ≤ sizeLine; decide), fun a37 z37 => ?_⟩
    generalize hG : upd _ a37 _ = J37
    obtain ⟨m37, x37⟩ := newG hG z37
    clear hG
    refine ⟨(by show 1 ≤ sizeLine; decide), fun a38 z38 => ?_⟩
    generalize hG : upd _ a38 _ = J38
    obtain ⟨m38, x38⟩ := newG hG z38
    clear hG
    refine ⟨(by show 0 ≤ sizeLine; decide), fun a39 z39 => ?_⟩
    generalize hG : upd _ a39 _ = J39
    obtain ⟨m39, x39⟩ := newG hG z39
    clear hG
    refine ⟨(by show 7 ≤ sizeLine; decide), fun a40 z40 => ?_⟩
    generalize hG : upd _ a40 _ = J40
    obtain ⟨m40, x40⟩ := newG hG z40
    clear hG
    have sJ : Same H J40 := (((((((((((((((((((((((((((((((((((((((m1.trans m2).trans m3).trans m4).trans m5).trans m6).trans m7).trans m8).trans m9).trans m10).trans m11).trans m12).trans m13).trans m14).trans m15).trans m16).trans m17).trans m18).trans m19).trans m20).trans m21).trans m22).trans m23).trans m24).trans m25).trans m26).trans m27).trans m28).trans m29).trans m30).trans m31).trans m32).trans m33).trans m34).trans m35).trans m36).trans m37).trans m38).trans m39).trans m40)
    have nl : H a33 = none := (show Same H J32 from (((((((((((((((((((((((((((((((m1.trans m2).trans m3).trans m4).trans m5).trans m6).trans m7).trans m8).trans m9).trans m10).trans m11).trans m12).trans m13).trans m14).trans m15).trans m16).trans m17).trans m18).trans m19).trans m20).trans m21).trans m22).trans m23).trans m24).trans m25).trans m26).trans m27).trans m28).trans m29).trans m30).trans m31).trans m32)).free z33
    have xl : J40 a33 = some (.lst ((([V.ref a4, V.ref a8, V.ref a9, V.ref a10] ++ [V.ref a12, V.ref a13, V.non, V.ref a14, V.ref a15, V.ref a16, V.str "cut back", V.ref a19]) ++ [V.ref a22, V.ref a23, V.ref a24, V.ref a25]) ++ [V.ref a28, V.ref a29, V.ref a30, V.ref a31])) := (m40 _ _ (m39 _ _ (m38 _ _ (m37 _ _ (m36 _ _ (m35 _ _ (m34 _ _ x33)))))))
    have ne_a34 : a34 ≠ a33 := Ne.symm (ne_of_none x33 z34)
    have ne_a35 : a35 ≠ a33 := Ne.symm (ne_of_none (m34 _ _ x33) z35)
    have ne_a36 : a36 ≠ a33 := Ne.symm (ne_of_none (m35 _ _ (m34 _ _ x33)) z36)
    have ne_a37 : a37 ≠ a33 := Ne.symm (ne_of_none (m36 _ _ (m35 _ _ (m34 _ _ x33))) z37)
    have ne_a38 : a38 ≠ a33 := Ne.symm (ne_of_none (m37 _ _ (m36 _ _ (m35 _ _ (m34 _ _ x33)))) z38)
    have ne_a39 : a39 ≠ a33 := Ne.symm (ne_of_none (m38 _ _ (m37 _ _ (m36 _ _ (m35 _ _ (m34 _ _ x33))))) z39)
    have ne_w : a40 ≠ a33 := Ne.symm (ne_of_none (m39 _ _ (m38 _ _ (m37 _ _ (m36 _ _ (m35 _ _ (m34 _ _ x33)))))) z40)
    have gdW : ∀ v ∈ [V.ref a34, V.ref a35, V.ref a36, V.ref a37, V.ref a38, V.str "folder", V.ref a39], ∃ d, Dp K (Hx a33 J40) v d ∧ Fine 2 20 d := by
      intro v hv
      simp only [List.mem_cons, List.not_mem_nil, or_false] at hv
      rcases hv with e | e | e | e | e | e | e
      · rw [e]; exact ⟨(.tuple [(.str "folder"), (.str "a")]), (.tup (.inl (.inl (hx_at ne_a34 (m40 _ _ (m39 _ _ (m38 _ _ (m37 _ _ (m36 _ _ (m35 _ _ x34))))))))) (.cons (.str _) (.cons (.str _) .nil))), fine_of (by decide +kernel)⟩
      · rw [e]; exact ⟨(.tuple [(.str "file"), .none]), (.tup (.inl (.inl (hx_at ne_a35 (m40 _ _ (m39 _ _ (m38 _ _ (m37 _ _ (m36 _ _ x35)))))))) (.cons (.str _) (.cons .non .nil))), fine_of (by decide +kernel)⟩
      · rw [e]; exact ⟨(.tuple [(.str "link"), (.str "a"), (.str "b")]), (.tup (.inl (.inl (hx_at ne_a36 (m40 _ _ (m39 _ _ (m38 _ _ (m37 _ _ x36))))))) (.cons (.str _) (.cons (.str _) (.cons (.str _) .nil)))), fine_of (by decide +kernel)⟩
      · rw [e]; exact ⟨(.tuple [(.str "link")]), (.tup (.inl (.inl (hx_at ne_a37 (m40 _ _ (m39 _ _ (m38 _ _ x37)))))) (.cons (.str _) .nil)), fine_of (by decide +kernel)⟩
      · rw [e]; exact ⟨(.tuple [(.str "folders")]), (.tup (.inl (.inl (hx_at ne_a38 (m40 _ _ (m39 _ _ x38))))) (.cons (.str _) .nil)), fine_of (by decide +kernel)⟩
      · rw [e]; exact ⟨(.str "folder"), (.str _), fine_of (by decide +kernel)⟩
      · rw [e]; exact ⟨(.tuple []), (.tup (.inl (.inl (hx_at ne_a39 (m40 _ _ x39)))) .nil), fine_of (by decide +kernel)⟩
    have gdL : ∀ v ∈ ((([V.ref a4, V.ref a8, V.ref a9, V.ref a10] ++ [V.ref a12, V.ref a13, V.non, V.ref a14, V.ref a15, V.ref a16, V.str "cut back", V.ref a19]) ++ [V.ref a22, V.ref a23, V.ref a24, V.ref a25]) ++ [V.ref a28, V.ref a29, V.ref a30, V.ref a31]), Gd K (Hx a33 J40) v := fun v hv => gd_same (hx_fresh z33 ((((((((m33.trans m34).trans m35).trans m36).trans m37).trans m38).trans m39).trans m40))) (gd0 v hv)
    have xw : J40 a40 = some (.lst [V.ref a34, V.ref a35, V.ref a36, V.ref a37, V.ref a38, V.str "folder", V.ref a39]) := x40
    have lenw : ([V.ref a34, V.ref a35, V.ref a36, V.ref a37, V.ref a38, V.str "folder", V.ref a39] : List V).length = 7 := rfl
    have len0 : (((([V.ref a4, V.ref a8, V.ref a9, V.ref a10] ++ [V.ref a12, V.ref a13, V.non, V.ref a14, V.ref a15, V.ref a16, V.str "cut back", V.ref a19]) ++ [V.ref a22, V.ref a23, V.ref a24, V.ref a25]) ++ [V.ref a28, V.ref a29, V.ref a30, V.ref a31]) : List V).length = 20 := rfl
    clear gd0 ne_a34 ne_a35 ne_a36 ne_a37 ne_a38 ne_a39
    generalize ((([V.ref a4, V.ref a8, V.ref a9, V.ref a10] ++ [V.ref a12, V.ref a13, V.non, V.ref a14, V.ref a15, V.ref a16, V.str "cut back", V.ref a19]) ++ [V.ref a22, V.ref a23, V.ref a24, V.ref a25]) ++ [V.ref a28, V.ref a29, V.ref a30, V.ref a31]) = xs0 at *
    generalize [V.ref a34, V.ref a35, V.ref a36, V.ref a37, V.ref a38, V.str "folder", V.ref a39] = ws at *
    refine ⟨a40, rfl, ⟨_, SqL.of xw⟩, ?_⟩
    refine for_list (K := K) (a := a40) (xs := ws) (fun j σ H' => (∃ v2, σ = [some (.ref q), some (.ref a33), v2, none, none, none, none]) ∧ But a33 J40 H' ∧ ∃ zs, H' a33 = some (.lst zs) ∧ zs.length ≤ 20 + j ∧ ∀ v ∈ zs, Gd K (Hx a33 H') v)
      ⟨⟨none, rfl⟩, But.refl _ _, xs0, xl, (by omega), gdL⟩ (fun j σ H' _ h => SqL.of (h.2.1 _ _ ne_w xw)) ?_ ?_
    · rintro j v σ H' hv ⟨⟨v2, rfl⟩, bt, zs, hz, lz, gz⟩
      have jl : j < ws.length := (List.getElem?_eq_some_iff.mp hv).1
      obtain ⟨d, dv, fv⟩ := gdW v (List.mem_of_getElem? hv)
      have dv' := same_dp (hx_but bt) _ _ dv
      refine ⟨_, rfl, .inl ⟨rfl, _, SqL.of hz⟩, _, rfl, (by show 5 ≤ sizeLine; decide), fun t nt => ?_⟩
      generalize hG : upd _ t _ = H2
      obtain ⟨e2, x2⟩ := newG hG nt
      clear hG
      have tl : t ≠ a33 := Ne.symm (ne_of_none hz nt)
      refine ⟨a33, zs, _, rfl, rfl, e2 _ _ hz, Nat.lt_of_lt_of_le (show zs.length < 100 by omega) (by decide), ?_⟩
      have b2' : But a33 H' (upd H2 a33 (.lst (zs ++ [V.ref t]))) := fun b o n e => by rw [upd_ne n]; exact e2 _ _ e
      refine ⟨⟨_, rfl⟩, bt.trans b2', zs ++ [.ref t], upd_same, (by rw [List.length_append, List.length_singleton]; omega), fun u hu => ?_⟩
      rcases List.mem_append.mp hu with e | e
      · exact gd_same (hx_but b2') (gz u e)
      · rw [List.mem_singleton.mp e]
        have dt : Dp K (Hx a33 (upd H2 a33 (.lst (zs ++ [V.ref t])))) (.ref t) (.tuple [.str "make", .int 0, .str "a", .int 1, d]) :=
          .tup (.inl (.inl (hx_at tl (by rw [upd_ne tl]; exact x2)))) (.cons (.str _) (.cons (.int _) (.cons (.str _) (.cons (.int _) (.cons (same_dp (hx_but b2') _ _ dv') .nil)))))
        exact gd_fine dt (Fines.cons (fine_of (k := 2) (n := 10) (by decide +kernel)) (Fines.cons (fine_of (k := 2) (n := 10) (by decide +kernel)) (Fines.cons (fine_of (k := 2) (n := 10) (by decide +kernel)) (Fines.cons (fine_of (k := 2) (n := 10) (by decide +kernel)) (one_fine fv))))).tup (by decide) (by decide)
    · rintro σ H1 ⟨⟨v2, rfl⟩, bt, zs, hz, lz, gz⟩
      have m1 : Same H H1 := same_but sJ nl bt
      have gz' : ∀ v ∈ zs, Gd K H1 v := fun v hv => gd_same (hx_sub a33 H1) (gz v hv)
      refine ⟨_, rfl, a33, rfl, ⟨_, SqL.of hz⟩, fun D11 nD11 => ?_⟩
      refine lc_any (f := fun _ => none) (gives_list (SqL.of hz)) nD11 (Nat.le_trans (show zs.length ≤ 100 by omega) (by decide)) (fun x H' Post mem sm y1 y2 => ?_) fun H11 e11 at11 => ?_
      · obtain ⟨d, th, ok, dn⟩ := gd_same sm (gz' x mem)
        refine ⟨rfl, ?_⟩
        refine ⟨_, rfl, x, d, rfl, th, ok, dn, fun H'' sm2 => ⟨_, rfl, ?_⟩⟩
        exact y2 H'' rfl sm2
      · rw [show zs.filterMap (fun _ => (none : Option V)) = [] by simp] at at11
        refine ⟨(by show 0 ≤ sizeLine; decide), fun p12 z12 => ?_⟩
        generalize hG : upd _ p12 _ = H12
        obtain ⟨e12, a12⟩ := newG hG z12
        clear hG
        refine ne_nilD (ds := []) (SqL.of (e12 _ _ at11)) .nil (SqL.of a12) (by simp [Hv.good, goodAll]) (by simp [PyData.depth, PyData.depthAll]) ⟨_, rfl, ?_⟩
        refine iteF ?_
        have m12 := (m1.trans e11).trans e12
        have sq12 := m12.seq sq
        refine ⟨_, rfl, q, _, rfl, .inl sq12, _, _, rfl, _, _, rfl, _, rfl, (by split <;> (try split) <;> omega), (by split <;> (try split) <;> omega), ?_⟩
        refine for_range (fun i σ H' => (∃ v2 v3 v4 v5 v6, σ = [some (.ref q), some (.ref a33), v2, v3, v4, v5, v6]) ∧ Same H12 H') ⟨⟨_, _, _, _, _, rfl⟩, Same.refl _⟩ ?_ ?_
        · rintro i σ H' hi ⟨⟨v2, v3, v4, v5, v6, rfl⟩, sm⟩
          have hi' : i < 64 := by
            revert hi
            split <;> (try split) <;> omega
          refine ⟨_, rfl, _, rfl, q, ns, _, rfl, sm.seq sq12, few, (by omega), (by omega), fun p Hb np sb pool => ?_⟩
          refine ⟨_, rfl, p, rfl, pool, fun l xs ds Hc bt pool2 nlp al dps dl okg => ⟨l, rfl, ⟨_, SqL.of al⟩, ?_⟩⟩
          refine for_list (K := K) (a := l) (xs := xs) (fun j σ Hm => (∃ w3 w6, σ = [some (.ref q), some (.ref a33), v2, w3, some (.int (0 + (i : Int))), some (.ref p), w6]) ∧ But p Hc Hm ∧ Pool Hm p)
            ⟨⟨_, _, rfl⟩, But.refl _ _, pool2⟩ (fun j σ Hm _ h => SqL.of (h.2.1 _ _ nlp al)) ?_ ?_
          · rintro j v σ Hm hv ⟨⟨w3, w6, rfl⟩, btm, poolm⟩
            obtain ⟨d, hd, dpv⟩ := dpAll_get dps hv
            obtain ⟨z, r, rfl, fine, r4⟩ := okG_shape (okg d (List.mem_of_getElem? hd))
            have dm := same_dp (hx_but btm) _ _ dpv
            refine ⟨_, rfl, _, rfl, _, rfl, (by show 2 ≤ sizeLine; decide), fun t1 z1 => ?_⟩
            generalize hG : upd _ t1 _ = G1'
            obtain ⟨g1, x1⟩ := newG hG z1
            clear hG
            refine ⟨(by show 2 ≤ sizeLine; decide), fun t2 z2 => ?_⟩
            generalize hG : upd _ t2 _ = G2'
            obtain ⟨g2, x2⟩ := newG hG z2
            clear hG
            have s2 := g1.trans g2
            have poolG := poolm.same s2
            have nt1 : t1 ≠ p := poolm.ne z1
            have nt2 : t2 ≠ p := (poolm.same g1).ne z2
            have d2 := same_dp (hx_but (But.of s2)) _ _ dm
            refine ⟨_, rfl, _, rfl, p, v, z, r, rfl, poolG, d2, fine, r4, fun u1 e1 H1' c1 pl1 dp1 fi1 => ?_⟩
            have d3 := same_dp (hx_but c1) _ _ d2
            refine ⟨_, rfl, _, rfl, p, v, z, r, rfl, pl1, d3, fine, r4, fun u2 e2 H2' c2 pl2 dp2 fi2 => ?_⟩
            have d4 := same_dp (hx_but c2) _ _ d3
            refine ⟨(by show 4 ≤ sizeLine; decide), fun pl npl => ?_⟩
            generalize hG : upd _ pl _ = Hl
            obtain ⟨el, al2⟩ := newG hG npl
            clear hG
            have c12 := c1.trans c2
            have dt : Dp K (Hx p H2') (.ref t2) (.tuple [sAllD, .tuple [.tuple (.str z :: r), .tuple (.str z :: r)]]) :=
              .tup (.inl (.inl (hx_at nt2 (c12 _ _ nt2 x2)))) (.cons (.str _) (.cons (.tup (.inl (.inl (hx_at nt1 (c12 _ _ nt1 (g2 _ _ x1))))) (.cons d4 (.cons d4 .nil))) .nil))
            have ft : Fine 5 300 (.tuple [sAllD, .tuple [.tuple (.str z :: r), .tuple (.str z :: r)]]) :=
              (Fines.cons (all_fine 4) (one_fine (Fines.cons fine (one_fine fine)).tup)).tup.up (Nat.le_refl _) (by decide)
            have sl : Same (Hx p H2') Hl := (hx_sub p H2').trans el
            have gds : ∀ u ∈ [v, V.ref t2, u1, u2], Gd K Hl u := by
              intro u hu
              simp only [List.mem_cons, List.not_mem_nil, or_false] at hu
              rcases hu with e | e | e | e
              · rw [e]; exact gd_fine (same_dp sl _ _ d4) fine (by decide) (by decide)
              · rw [e]; exact gd_fine (same_dp sl _ _ dt) ft (by decide) (by decide)
              · rw [e]; exact gd_fine (same_dp sl _ _ (same_dp (hx_but c2) _ _ dp1)) fi1 (by decide) (by decide)
              · rw [e]; exact gd_fine (same_dp sl _ _ dp2) fi2 (by decide) (by decide)
            refine ⟨pl, rfl, ⟨_, SqL.of al2⟩, ?_⟩
            refine for_list (K := K) (a := pl) (xs := [v, V.ref t2, u1, u2]) (fun j' σ Hn => (∃ w3, σ = [some (.ref q), some (.ref a33), v2, w3, some (.int (0 + (i : Int))), some (.ref p), some v]) ∧ Same Hl Hn)
              ⟨⟨_, rfl⟩, Same.refl _⟩ (fun j' σ Hn _ h => h.2.seq (SqL.of al2)) ?_ ?_
            · rintro j' u σ Hn hu ⟨⟨w3', rfl⟩, sn⟩
              obtain ⟨d', th', ok', dn'⟩ := gd_same sn (gds u (List.mem_of_getElem? hu))
              refine ⟨_, rfl, u, d', rfl, th', ok', dn', fun Ho so => ⟨_, rfl, ?_⟩⟩
              exact ⟨⟨_, rfl⟩, sn.trans so⟩
            · rintro σ Hn ⟨⟨w3', rfl⟩, sn⟩
              have so := el.trans sn
              exact ⟨⟨_, _, rfl⟩, (((btm.trans (But.of s2)).trans c12).trans (But.of so)), pl2.same so⟩
          · rintro σ Hm ⟨⟨w3, w6, rfl⟩, btm, poolm⟩
            exact ⟨⟨_, _, _, _, _, rfl⟩, sm.trans (same_but sb np (bt.trans btm))⟩
        · rintro σ H' ⟨⟨v2, v3, v4, v5, v6, rfl⟩, sm⟩
          exact k H'
end
end K4
end

section
open PySem PySem.Spec PyProof.Rows L2 Hv
namespace K4
def findL (l : List DictEntry) (z : Str) : Option Value := (l.find? fun e => Value.isStrOf z e.key).map (·.val)
theorem find_by (l : List DictEntry) (z : Str) : findBy Value.isStrOf l.toArray z = findL l z := by
  unfold findBy findL
  rw [List.find?_toArray]
theorem find_pos {h : Int} {y : Str} {t : Tok} {v : Value} {l : List DictEntry} {z : Str} (e : y = z) : findL (⟨h, .str y t, v⟩ :: l) z = some v := by
  unfold findL
  rw [List.find?_cons, show Value.isStrOf z (.str y t) = true from (beq_iff_eq.mpr e : (y == z) = true)]
  rfl
theorem find_neg {h : Int} {y : Str} {t : Tok} {v : Value} {l : List DictEntry} {z : Str} (e : ¬ y = z) : findL (⟨h, .str y t, v⟩ :: l) z = findL l z := by
  unfold findL
  rw [List.find?_cons, show Value.isStrOf z (.str y t) = false from (beq_eq_false_iff_ne.mpr e : (y == z) = false)]
theorem forms_of {K : PySem.W.Frag} {w : World} {ff : Addr} {nn : Nat} {h0 h1 h2 h3 h4 h5 h6 h7 : Int} {u0 u1 u2 u3 u4 u5 u6 u7 : Tok} {t0 t1 t2 t3 t4 t5 t6 t7 : Addr}
    {od0 : Option Addr} {n0 : Nat} {sl0 : Array (Option Value)} {v0_0 v0_1 v0_2 v0_3 : Tok}
    {od1 : Option Addr} {n1 : Nat} {sl1 : Array (Option Value)} {v1_0 v1_1 v1_2 : Tok}
    {od2 : Option Addr} {n2 : Nat} {sl2 : Array (Option Value)} {v2_0 v2_1 : Tok}
    {od3 : Option Addr} {n3 : Nat} {sl3 : Array (Option Value)} {v3_0 v3_1 v3_2 : Tok}
    {od4 : Option Addr} {n4 : Nat} {sl4 : Array (Option Value)} {v4_0 v4_1 : Tok}
    {od5 : Option Addr} {n5 : Nat} {sl5 : Array (Option Value)} {v5_0 v5_1 v5_2 v5_3 : Tok}
    {od6 : Option Addr} {n6 : Nat} {sl6 : Array (Option Value)} {v6_0 v6_1 v6_2 v6_3 : Tok}
    {od7 : Option Addr} {n7 : Nat} {sl7 : Array (Option Value)} {v7_0 v7_1 : Tok}
    (l_forms : K.lookup ff = some ⟨.type "dict", none, .dict #[⟨h0, .str "make" u0, .ref t0⟩, ⟨h1, .str "write" u1, .ref t1⟩, ⟨h2, .str "cut" u2, .ref t2⟩, ⟨h3, .str "name" u3, .ref t3⟩, ⟨h4, .str "strike" u4, .ref t4⟩, ⟨h5, .str "move" u5, .ref t5⟩, ⟨h6, .str "exchange" u6, .ref t6⟩, ⟨h7, .str "mark" u7, .ref t7⟩] nn, #[]⟩) (q_forms : PySem.W.KeysLit w.params [⟨h0, .str "make" u0, .ref t0⟩, ⟨h1, .str "write" u1, .ref t1⟩, ⟨h2, .str "cut" u2, .ref t2⟩, ⟨h3, .str "name" u3, .ref t3⟩, ⟨h4, .str "strike" u4, .ref t4⟩, ⟨h5, .str "move" u5, .ref t5⟩, ⟨h6, .str "exchange" u6, .ref t6⟩, ⟨h7, .str "mark" u7, .ref t7⟩]) (low_forms : (ff == sysModules) = false)
    (l_t0 : K.lookup t0 = some ⟨.type "tuple", od0, .seq #[.str "number" v0_0, .str "name" v0_1, .str "number" v0_2, .str "what" v0_3] n0, sl0⟩)
    (l_t1 : K.lookup t1 = some ⟨.type "tuple", od1, .seq #[.str "number" v1_0, .str "number" v1_1, .str "signs" v1_2] n1, sl1⟩)
    (l_t2 : K.lookup t2 = some ⟨.type "tuple", od2, .seq #[.str "number" v2_0, .str "number" v2_1] n2, sl2⟩)
    (l_t3 : K.lookup t3 = some ⟨.type "tuple", od3, .seq #[.str "number" v3_0, .str "name" v3_1, .str "number" v3_2] n3, sl3⟩)
    (l_t4 : K.lookup t4 = some ⟨.type "tuple", od4, .seq #[.str "number" v4_0, .str "name" v4_1] n4, sl4⟩)
    (l_t5 : K.lookup t5 = some ⟨.type "tuple", od5, .seq #[.str "number" v5_0, .str "name" v5_1, .str "number" v5_2, .str "name" v5_3] n5, sl5⟩)
    (l_t6 : K.lookup t6 = some ⟨.type "tuple", od6, .seq #[.str "number" v6_0, .str "name" v6_1, .str "number" v6_2, .str "name" v6_3] n6, sl6⟩)
    (l_t7 : K.lookup t7 = some ⟨.type "tuple", od7, .seq #[.str "number" v7_0, .str "mark" v7_1] n7, sl7⟩)
    : Forms K w ff #[⟨h0, .str "make" u0, .ref t0⟩, ⟨h1, .str "write" u1, .ref t1⟩, ⟨h2, .str "cut" u2, .ref t2⟩, ⟨h3, .str "name" u3, .ref t3⟩, ⟨h4, .str "strike" u4, .ref t4⟩, ⟨h5, .str "move" u5, .ref t5⟩, ⟨h6, .str "exchange" u6, .ref t6⟩, ⟨h7, .str "mark" u7, .ref t7⟩] nn := by
  refine ⟨⟨l_forms, q_forms, low_forms⟩, fun z hz => ?_, fun z ss hz => ?_⟩
  · rw [show (#[⟨h0, .str "make" u0, .ref t0⟩, ⟨h1, .str "write" u1, .ref t1⟩, ⟨h2, .str "cut" u2, .ref t2⟩, ⟨h3, .str "name" u3, .ref t3⟩, ⟨h4, .str "strike" u4, .ref t4⟩, ⟨h5, .str "move" u5, .ref t5⟩, ⟨h6, .str "exchange" u6, .ref t6⟩, ⟨h7, .str "mark" u7, .ref t7⟩] : Array DictEntry) = List.toArray [⟨h0, .str "make" u0, .ref t0⟩, ⟨h1, .str "write" u1, .ref t1⟩, ⟨h2, .str "cut" u2, .ref t2⟩, ⟨h3, .str "name" u3, .ref t3⟩, ⟨h4, .str "strike" u4, .ref t4⟩, ⟨h5, .str "move" u5, .ref t5⟩, ⟨h6, .str "exchange" u6, .ref t6⟩, ⟨h7, .str "mark" u7, .ref t7⟩] from rfl, find_by]
    have hn0 : ¬ z = "make" := fun e => by rw [e] at hz; exact absurd hz (by decide +kernel)
    have hn1 : ¬ z = "write" := fun e => by rw [e] at hz; exact absurd hz (by decide +kernel)
    have hn2 : ¬ z = "cut" := fun e => by rw [e] at hz; exact absurd hz (by decide +kernel)
    have hn3 : ¬ z = "name" := fun e => by rw [e] at hz; exact absurd hz (by decide +kernel)
    have hn4 : ¬ z = "strike" := fun e => by rw [e] at hz; exact absurd hz (by decide +kernel)
    have hn5 : ¬ z = "move" := fun e => by rw [e] at hz; exact absurd hz (by decide +kernel)
    have hn6 : ¬ z = "exchange" := fun e => by rw [e] at hz; exact absurd hz (by decide +kernel)
    have hn7 : ¬ z = "mark" := fun e => by rw [e] at hz; exact absurd hz (by decide +kernel)
    rw [find_neg (fun e => hn0 e.symm), find_neg (fun e => hn1 e.symm), find_neg (fun e => hn2 e.symm), find_neg (fun e => hn3 e.symm), find_neg (fun e => hn4 e.symm), find_neg (fun e => hn5 e.symm), find_neg (fun e => hn6 e.symm), find_neg (fun e => hn7 e.symm)]
    rfl
  · rw [show (#[⟨h0, .str "make" u0, .ref t0⟩, ⟨h1, .str "write" u1, .ref t1⟩, ⟨h2, .str "cut" u2, .ref t2⟩, ⟨h3, .str "name" u3, .ref t3⟩, ⟨h4, .str "strike" u4, .ref t4⟩, ⟨h5, .str "move" u5, .ref t5⟩, ⟨h6, .str "exchange" u6, .ref t6⟩, ⟨h7, .str "mark" u7, .ref t7⟩] : Array DictEntry) = List.toArray [⟨h0, .str "make" u0, .ref t0⟩, ⟨h1, .str "write" u1, .ref t1⟩, ⟨h2, .str "cut" u2, .ref t2⟩, ⟨h3, .str "name" u3, .ref t3⟩, ⟨h4, .str "strike" u4, .ref t4⟩, ⟨h5, .str "move" u5, .ref t5⟩, ⟨h6, .str "exchange" u6, .ref t6⟩, ⟨h7, .str "mark" u7, .ref t7⟩] from rfl, find_by]
    by_cases hn0 : z = "make"
    · subst hn0
      have e : formOf "make" = some (["number", "name", "number", "what"] : List Str) := by decide +kernel
      cases e.symm.trans hz
      refine ⟨t0, ?_, fun H => .inr ⟨_, _, _, l_t0, rfl, rfl, (by show 4 ≤ sizeLine; decide), (.cons ⟨_, rfl⟩ (.cons ⟨_, rfl⟩ (.cons ⟨_, rfl⟩ (.cons ⟨_, rfl⟩ .nil))))⟩⟩
      rw [find_pos rfl]
    by_cases hn1 : z = "write"
    · subst hn1
      have e : formOf "write" = some (["number", "number", "signs"] : List Str) := by decide +kernel
      cases e.symm.trans hz
      refine ⟨t1, ?_, fun H => .inr ⟨_, _, _, l_t1, rfl, rfl, (by show 3 ≤ sizeLine; decide), (.cons ⟨_, rfl⟩ (.cons ⟨_, rfl⟩ (.cons ⟨_, rfl⟩ .nil)))⟩⟩
      rw [find_neg (by decide +kernel), find_pos rfl]
    by_cases hn2 : z = "cut"
    · subst hn2
      have e : formOf "cut" = some (["number", "number"] : List Str) := by decide +kernel
      cases e.symm.trans hz
      refine ⟨t2, ?_, fun H => .inr ⟨_, _, _, l_t2, rfl, rfl, (by show 2 ≤ sizeLine; decide), (.cons ⟨_, rfl⟩ (.cons ⟨_, rfl⟩ .nil))⟩⟩
      rw [find_neg (by decide +kernel), find_neg (by decide +kernel), find_pos rfl]
    by_cases hn3 : z = "name"
    · subst hn3
      have e : formOf "name" = some (["number", "name", "number"] : List Str) := by decide +kernel
      cases e.symm.trans hz
      refine ⟨t3, ?_, fun H => .inr ⟨_, _, _, l_t3, rfl, rfl, (by show 3 ≤ sizeLine; decide), (.cons ⟨_, rfl⟩ (.cons ⟨_, rfl⟩ (.cons ⟨_, rfl⟩ .nil)))⟩⟩
      rw [find_neg (by decide +kernel), find_neg (by decide +kernel), find_neg (by decide +kernel), find_pos rfl]
    by_cases hn4 : z = "strike"
    · subst hn4
      have e : formOf "strike" = some (["number", "name"] : List Str) := by decide +kernel
      cases e.symm.trans hz
      refine ⟨t4, ?_, fun H => .inr ⟨_, _, _, l_t4, rfl, rfl, (by show 2 ≤ sizeLine; decide), (.cons ⟨_, rfl⟩ (.cons ⟨_, rfl⟩ .nil))⟩⟩
      rw [find_neg (by decide +kernel), find_neg (by decide +kernel), find_neg (by decide +kernel), find_neg (by decide +kernel), find_pos rfl]
    by_cases hn5 : z = "move"
    · subst hn5
      have e : formOf "move" = some (["number", "name", "number", "name"] : List Str) := by decide +kernel
      cases e.symm.trans hz
      refine ⟨t5, ?_, fun H => .inr ⟨_, _, _, l_t5, rfl, rfl, (by show 4 ≤ sizeLine; decide), (.cons ⟨_, rfl⟩ (.cons ⟨_, rfl⟩ (.cons ⟨_, rfl⟩ (.cons ⟨_, rfl⟩ .nil))))⟩⟩
      rw [find_neg (by decide +kernel), find_neg (by decide +kernel), find_neg (by decide +kernel), find_neg (by decide +kernel), find_neg (by decide +kernel), find_pos rfl]
    by_cases hn6 : z = "exchange"
    · subst hn6
      have e : formOf "exchange" = some (["number", "name", "number", "name"] : List Str) := by decide +kernel
      cases e.symm.trans hz
      refine ⟨t6, ?_, fun H => .inr ⟨_, _, _, l_t6, rfl, rfl, (by show 4 ≤ sizeLine; decide), (.cons ⟨_, rfl⟩ (.cons ⟨_, rfl⟩ (.cons ⟨_, rfl⟩ (.cons ⟨_, rfl⟩ .nil))))⟩⟩
      rw [find_neg (by decide +kernel), find_neg (by decide +kernel), find_neg (by decide +kernel), find_neg (by decide +kernel), find_neg (by decide +kernel), find_neg (by decide +kernel), find_pos rfl]
    by_cases hn7 : z = "mark"
    · subst hn7
      have e : formOf "mark" = some (["number", "mark"] : List Str) := by decide +kernel
      cases e.symm.trans hz
      refine ⟨t7, ?_, fun H => .inr ⟨_, _, _, l_t7, rfl, rfl, (by show 2 ≤ sizeLine; decide), (.cons ⟨_, rfl⟩ (.cons ⟨_, rfl⟩ .nil))⟩⟩
      rw [find_neg (by decide +kernel), find_neg (by decide +kernel), find_neg (by decide +kernel), find_neg (by decide +kernel), find_neg (by decide +kernel), find_neg (by decide +kernel), find_neg (by decide +kernel), find_pos rfl]
    exfalso
    unfold formOf at hz
    rw [if_neg hn0, if_neg hn1, if_neg hn2, if_neg hn3, if_neg hn4, if_neg hn5, if_neg hn6, if_neg hn7] at hz
    cases hz
end K4
end

section
open PySem PySem.Spec PyProof.Rows L2 Hv
namespace K4
theorem all_mk {l : PySem.W.OpenLaw} {w : World} {K : PySem.W.Frag} {h : Heap} {mg : Str → Option Value} {fa f_is_name f_is_path f_is_signs f_are_steps f_is_step f_is_whole f_is_count f_is_change f_is_mark f_is_what f_word f_is_single f_is_part f_is_all f_is_entry f_is_cut f_begun f_take f_lis_name f_lsteps f_good f_lis_number f_lis_part f_lchange f_bent f_right f_law : Addr} (X : K.In h) (G : h.Ns mainGlobals mg) (hfa : mg "law" = some (.ref fa))
    {ff : Addr} {nn : Nat} {h0 h1 h2 h3 h4 h5 h6 h7 : Int} {u0 u1 u2 u3 u4 u5 u6 u7 : Tok} {t0 t1 t2 t3 t4 t5 t6 t7 : Addr}
    {od0 : Option Addr} {n0 : Nat} {sl0 : Array (Option Value)} {v0_0 v0_1 v0_2 v0_3 : Tok}
    {od1 : Option Addr} {n1 : Nat} {sl1 : Array (Option Value)} {v1_0 v1_1 v1_2 : Tok}
    {od2 : Option Addr} {n2 : Nat} {sl2 : Array (Option Value)} {v2_0 v2_1 : Tok}
    {od3 : Option Addr} {n3 : Nat} {sl3 : Array (Option Value)} {v3_0 v3_1 v3_2 : Tok}
    {od4 : Option Addr} {n4 : Nat} {sl4 : Array (Option Value)} {v4_0 v4_1 : Tok}
    {od5 : Option Addr} {n5 : Nat} {sl5 : Array (Option Value)} {v5_0 v5_1 v5_2 v5_3 : Tok}
    {od6 : Option Addr} {n6 : Nat} {sl6 : Array (Option Value)} {v6_0 v6_1 v6_2 v6_3 : Tok}
    {od7 : Option Addr} {n7 : Nat} {sl7 : Array (Option Value)} {v7_0 v7_1 : Tok}
    {od_is_name an_is_name : Option Addr} {sl_is_name : Array (Option Value)} {oc_is_name kV_is_name dc_is_name pm_is_name cd_is_name ct_is_name : Value}
    {od_is_path an_is_path : Option Addr} {sl_is_path : Array (Option Value)} {oc_is_path kV_is_path dc_is_path pm_is_path cd_is_path ct_is_path : Value}
    {od_is_signs an_is_signs : Option Addr} {sl_is_signs : Array (Option Value)} {oc_is_signs kV_is_signs dc_is_signs pm_is_signs cd_is_signs ct_is_signs : Value}
    {od_are_steps an_are_steps : Option Addr} {sl_are_steps : Array (Option Value)} {oc_are_steps kV_are_steps dc_are_steps pm_are_steps cd_are_steps ct_are_steps : Value}
    {od_is_step an_is_step : Option Addr} {sl_is_step : Array (Option Value)} {oc_is_step kV_is_step dc_is_step pm_is_step cd_is_step ct_is_step : Value}
    {od_is_whole an_is_whole : Option Addr} {sl_is_whole : Array (Option Value)} {oc_is_whole kV_is_whole dc_is_whole pm_is_whole cd_is_whole ct_is_whole : Value}
    {od_is_count an_is_count : Option Addr} {sl_is_count : Array (Option Value)} {oc_is_count kV_is_count dc_is_count pm_is_count cd_is_count ct_is_count : Value}
    {od_is_change an_is_change : Option Addr} {sl_is_change : Array (Option Value)} {oc_is_change kV_is_change dc_is_change pm_is_change cd_is_change ct_is_change : Value}
    {od_is_mark an_is_mark : Option Addr} {sl_is_mark : Array (Option Value)} {oc_is_mark kV_is_mark dc_is_mark pm_is_mark cd_is_mark ct_is_mark : Value}
    {od_is_what an_is_what : Option Addr} {sl_is_what : Array (Option Value)} {oc_is_what kV_is_what dc_is_what pm_is_what cd_is_what ct_is_what : Value}
    {od_word an_word : Option Addr} {sl_word : Array (Option Value)} {oc_word kV_word dc_word pm_word cd_word ct_word : Value}
    {od_is_single an_is_single : Option Addr} {sl_is_single : Array (Option Value)} {oc_is_single kV_is_single dc_is_single pm_is_single cd_is_single ct_is_single : Value}
    {od_is_part an_is_part : Option Addr} {sl_is_part : Array (Option Value)} {oc_is_part kV_is_part dc_is_part pm_is_part cd_is_part ct_is_part : Value}
    {od_is_all an_is_all : Option Addr} {sl_is_all : Array (Option Value)} {oc_is_all kV_is_all dc_is_all pm_is_all cd_is_all ct_is_all : Value}
    {od_is_entry an_is_entry : Option Addr} {sl_is_entry : Array (Option Value)} {oc_is_entry kV_is_entry dc_is_entry pm_is_entry cd_is_entry ct_is_entry : Value}
    {od_is_cut an_is_cut : Option Addr} {sl_is_cut : Array (Option Value)} {oc_is_cut kV_is_cut dc_is_cut pm_is_cut cd_is_cut ct_is_cut : Value}
    {od_begun an_begun : Option Addr} {sl_begun : Array (Option Value)} {oc_begun kV_begun dc_begun pm_begun cd_begun ct_begun : Value}
    {od_take an_take : Option Addr} {sl_take : Array (Option Value)} {oc_take kV_take dc_take pm_take cd_take ct_take : Value}
    {od_lis_name an_lis_name : Option Addr} {sl_lis_name : Array (Option Value)} {oc_lis_name kV_lis_name dc_lis_name pm_lis_name cd_lis_name ct_lis_name : Value}
    {od_lsteps an_lsteps : Option Addr} {sl_lsteps : Array (Option Value)} {oc_lsteps kV_lsteps dc_lsteps pm_lsteps cd_lsteps ct_lsteps : Value}
    {od_good an_good : Option Addr} {sl_good : Array (Option Value)} {oc_good kV_good dc_good pm_good cd_good ct_good : Value}
    {od_lis_number an_lis_number : Option Addr} {sl_lis_number : Array (Option Value)} {oc_lis_number kV_lis_number dc_lis_number pm_lis_number cd_lis_number ct_lis_number : Value}
    {od_lis_part an_lis_part : Option Addr} {sl_lis_part : Array (Option Value)} {oc_lis_part kV_lis_part dc_lis_part pm_lis_part cd_lis_part ct_lis_part : Value}
    {od_lchange an_lchange : Option Addr} {sl_lchange : Array (Option Value)} {oc_lchange kV_lchange dc_lchange pm_lchange cd_lchange ct_lchange : Value}
    {od_bent an_bent : Option Addr} {sl_bent : Array (Option Value)} {oc_bent kV_bent dc_bent pm_bent cd_bent ct_bent : Value}
    {od_right an_right : Option Addr} {sl_right : Array (Option Value)} {oc_right kV_right dc_right pm_right cd_right ct_right : Value}
    {od_law an_law : Option Addr} {sl_law : Array (Option Value)} {oc_law kV_law dc_law pm_law cd_law ct_law : Value}
    {tk_0 : Tok} (c_0 : PySem.W.nsIn K mainGlobals "MOST_LETTERS" = some (some (.int 8 tk_0)))
    {tk_1 : Tok} (c_1 : PySem.W.nsIn K mainGlobals "MOST_STEPS" = some (some (.int 8 tk_1)))
    {tk_2 : Tok} (c_2 : PySem.W.nsIn K mainGlobals "MOST_SIGNS" = some (some (.int 200 tk_2)))
    {tk_3 : Tok} (c_3 : PySem.W.nsIn K mainGlobals "TOP" = some (some (.str "/" tk_3)))
    {tk_4 : Tok} (c_4 : PySem.W.nsIn K mainGlobals "HERE" = some (some (.str "." tk_4)))
    {tk_5 : Tok} (c_5 : PySem.W.nsIn K mainGlobals "UP" = some (some (.str ".." tk_5)))
    {tk_6 : Tok} (c_6 : PySem.W.nsIn K mainGlobals "MOST_MARK" = some (some (.int 999 tk_6)))
    {tk_7 : Tok} (c_7 : PySem.W.nsIn K mainGlobals "MOST_CHANGES" = some (some (.int 200 tk_7)))
    {tk_8 : Tok} (c_8 : PySem.W.nsIn K mainGlobals "CUT_BACK" = some (some (.str "cut back" tk_8)))
    (c_forms : PySem.W.nsIn K mainGlobals "FORMS" = some (some (.ref ff)))
    (l_forms : K.lookup ff = some ⟨.type "dict", none, .dict #[⟨h0, .str "make" u0, .ref t0⟩, ⟨h1, .str "write" u1, .ref t1⟩, ⟨h2, .str "cut" u2, .ref t2⟩, ⟨h3, .str "name" u3, .ref t3⟩, ⟨h4, .str "strike" u4, .ref t4⟩, ⟨h5, .str "move" u5, .ref t5⟩, ⟨h6, .str "exchange" u6, .ref t6⟩, ⟨h7, .str "mark" u7, .ref t7⟩] nn, #[]⟩) (q_forms : PySem.W.KeysLit w.params [⟨h0, .str "make" u0, .ref t0⟩, ⟨h1, .str "write" u1, .ref t1⟩, ⟨h2, .str "cut" u2, .ref t2⟩, ⟨h3, .str "name" u3, .ref t3⟩, ⟨h4, .str "strike" u4, .ref t4⟩, ⟨h5, .str "move" u5, .ref t5⟩, ⟨h6, .str "exchange" u6, .ref t6⟩, ⟨h7, .str "mark" u7, .ref t7⟩]) (low_forms : (ff == sysModules) = false)
    (l_t0 : K.lookup t0 = some ⟨.type "tuple", od0, .seq #[.str "number" v0_0, .str "name" v0_1, .str "number" v0_2, .str "what" v0_3] n0, sl0⟩)
    (l_t1 : K.lookup t1 = some ⟨.type "tuple", od1, .seq #[.str "number" v1_0, .str "number" v1_1, .str "signs" v1_2] n1, sl1⟩)
    (l_t2 : K.lookup t2 = some ⟨.type "tuple", od2, .seq #[.str "number" v2_0, .str "number" v2_1] n2, sl2⟩)
    (l_t3 : K.lookup t3 = some ⟨.type "tuple", od3, .seq #[.str "number" v3_0, .str "name" v3_1, .str "number" v3_2] n3, sl3⟩)
    (l_t4 : K.lookup t4 = some ⟨.type "tuple", od4, .seq #[.str "number" v4_0, .str "name" v4_1] n4, sl4⟩)
    (l_t5 : K.lookup t5 = some ⟨.type "tuple", od5, .seq #[.str "number" v5_0, .str "name" v5_1, .str "number" v5_2, .str "name" v5_3] n5, sl5⟩)
    (l_t6 : K.lookup t6 = some ⟨.type "tuple", od6, .seq #[.str "number" v6_0, .str "name" v6_1, .str "number" v6_2, .str "name" v6_3] n6, sl6⟩)
    (l_t7 : K.lookup t7 = some ⟨.type "tuple", od7, .seq #[.str "number" v7_0, .str "mark" v7_1] n7, sl7⟩)
    (z_0 : PySem.W.nsIn K mainGlobals "isinstance" = some none)
    (z_1 : PySem.W.nsIn K mainGlobals "str" = some none)
    (z_2 : PySem.W.nsIn K mainGlobals "len" = some none)
    (z_3 : PySem.W.nsIn K mainGlobals "all" = some none)
    (z_4 : PySem.W.nsIn K mainGlobals "max" = some none)
    (z_5 : PySem.W.nsIn K mainGlobals "int" = some none)
    (z_6 : PySem.W.nsIn K mainGlobals "range" = some none)
    (z_7 : PySem.W.nsIn K mainGlobals "min" = some none)
    (z_8 : PySem.W.nsIn K mainGlobals "ord" = some none)
    (z_9 : PySem.W.nsIn K mainGlobals "tuple" = some none)
    (z_10 : PySem.W.nsIn K mainGlobals "repr" = some none)
    (z_11 : PySem.W.nsIn K mainGlobals "bool" = some none)
    (z_12 : PySem.W.nsIn K mainGlobals "zip" = some none)
    (z_13 : PySem.W.nsIn K mainGlobals "list" = some none)
    (a_is_name : PySem.W.nsIn K mainGlobals "is_name" = some (some (.ref f_is_name))) (l_is_name : K.lookup f_is_name = some ⟨oc_is_name, od_is_name, .func (PySem.W.fnOf "is_name" "is_name" (defArgs s_is_name) (defBody s_is_name) (defScope s_is_name) .none kV_is_name dc_is_name pm_is_name an_is_name cd_is_name ct_is_name), sl_is_name⟩) (d_is_name : PySem.W.codeIn K cd_is_name "is_name" = true) (k_is_name : PySem.W.keepIn K (.ref f_is_name) = true)
    (a_is_path : PySem.W.nsIn K mainGlobals "is_path" = some (some (.ref f_is_path))) (l_is_path : K.lookup f_is_path = some ⟨oc_is_path, od_is_path, .func (PySem.W.fnOf "is_path" "is_path" (defArgs s_is_path) (defBody s_is_path) (defScope s_is_path) .none kV_is_path dc_is_path pm_is_path an_is_path cd_is_path ct_is_path), sl_is_path⟩) (d_is_path : PySem.W.codeIn K cd_is_path "is_path" = true) (k_is_path : PySem.W.keepIn K (.ref f_is_path) = true)
    (a_is_signs : PySem.W.nsIn K mainGlobals "is_signs" = some (some (.ref f_is_signs))) (l_is_signs : K.lookup f_is_signs = some ⟨oc_is_signs, od_is_signs, .func (PySem.W.fnOf "is_signs" "is_signs" (defArgs s_is_signs) (defBody s_is_signs) (defScope s_is_signs) .none kV_is_signs dc_is_signs pm_is_signs an_is_signs cd_is_signs ct_is_signs), sl_is_signs⟩) (d_is_signs : PySem.W.codeIn K cd_is_signs "is_signs" = true) (k_is_signs : PySem.W.keepIn K (.ref f_is_signs) = true)
    (a_are_steps : PySem.W.nsIn K mainGlobals "_are_steps" = some (some (.ref f_are_steps))) (l_are_steps : K.lookup f_are_steps = some ⟨oc_are_steps, od_are_steps, .func (PySem.W.fnOf "_are_steps" "_are_steps" (defArgs s_are_steps) (defBody s_are_steps) (defScope s_are_steps) .none kV_are_steps dc_are_steps pm_are_steps an_are_steps cd_are_steps ct_are_steps), sl_are_steps⟩) (d_are_steps : PySem.W.codeIn K cd_are_steps "_are_steps" = true) (k_are_steps : PySem.W.keepIn K (.ref f_are_steps) = true)
    (a_is_step : PySem.W.nsIn K mainGlobals "_is_step" = some (some (.ref f_is_step))) (l_is_step : K.lookup f_is_step = some ⟨oc_is_step, od_is_step, .func (PySem.W.fnOf "_is_step" "_is_step" (defArgs s_is_step) (defBody s_is_step) (defScope s_is_step) .none kV_is_step dc_is_step pm_is_step an_is_step cd_is_step ct_is_step), sl_is_step⟩) (d_is_step : PySem.W.codeIn K cd_is_step "_is_step" = true) (k_is_step : PySem.W.keepIn K (.ref f_is_step) = true)
    (a_is_whole : PySem.W.nsIn K mainGlobals "is_whole" = some (some (.ref f_is_whole))) (l_is_whole : K.lookup f_is_whole = some ⟨oc_is_whole, od_is_whole, .func (PySem.W.fnOf "is_whole" "is_whole" (defArgs s_is_whole) (defBody s_is_whole) (defScope s_is_whole) .none kV_is_whole dc_is_whole pm_is_whole an_is_whole cd_is_whole ct_is_whole), sl_is_whole⟩) (d_is_whole : PySem.W.codeIn K cd_is_whole "is_whole" = true) (k_is_whole : PySem.W.keepIn K (.ref f_is_whole) = true)
    (a_is_count : PySem.W.nsIn K mainGlobals "is_count" = some (some (.ref f_is_count))) (l_is_count : K.lookup f_is_count = some ⟨oc_is_count, od_is_count, .func (PySem.W.fnOf "is_count" "is_count" (defArgs s_is_count) (defBody s_is_count) (defScope s_is_count) .none kV_is_count dc_is_count pm_is_count an_is_count cd_is_count ct_is_count), sl_is_count⟩) (d_is_count : PySem.W.codeIn K cd_is_count "is_count" = true) (k_is_count : PySem.W.keepIn K (.ref f_is_count) = true)
    (a_is_change : PySem.W.nsIn K mainGlobals "is_change" = some (some (.ref f_is_change))) (l_is_change : K.lookup f_is_change = some ⟨oc_is_change, od_is_change, .func (PySem.W.fnOf "is_change" "is_change" (defArgs s_is_change) (defBody s_is_change) (defScope s_is_change) .none kV_is_change dc_is_change pm_is_change an_is_change cd_is_change ct_is_change), sl_is_change⟩) (d_is_change : PySem.W.codeIn K cd_is_change "is_change" = true) (k_is_change : PySem.W.keepIn K (.ref f_is_change) = true)
    (a_is_mark : PySem.W.nsIn K mainGlobals "is_mark" = some (some (.ref f_is_mark))) (l_is_mark : K.lookup f_is_mark = some ⟨oc_is_mark, od_is_mark, .func (PySem.W.fnOf "is_mark" "is_mark" (defArgs s_is_mark) (defBody s_is_mark) (defScope s_is_mark) .none kV_is_mark dc_is_mark pm_is_mark an_is_mark cd_is_mark ct_is_mark), sl_is_mark⟩) (d_is_mark : PySem.W.codeIn K cd_is_mark "is_mark" = true) (k_is_mark : PySem.W.keepIn K (.ref f_is_mark) = true)
    (a_is_what : PySem.W.nsIn K mainGlobals "is_what" = some (some (.ref f_is_what))) (l_is_what : K.lookup f_is_what = some ⟨oc_is_what, od_is_what, .func (PySem.W.fnOf "is_what" "is_what" (defArgs s_is_what) (defBody s_is_what) (defScope s_is_what) .none kV_is_what dc_is_what pm_is_what an_is_what cd_is_what ct_is_what), sl_is_what⟩) (d_is_what : PySem.W.codeIn K cd_is_what "is_what" = true) (k_is_what : PySem.W.keepIn K (.ref f_is_what) = true)
    (a_word : PySem.W.nsIn K mainGlobals "_word" = some (some (.ref f_word))) (l_word : K.lookup f_word = some ⟨oc_word, od_word, .func (PySem.W.fnOf "_word" "_word" (defArgs s_word) (defBody s_word) (defScope s_word) .none kV_word dc_word pm_word an_word cd_word ct_word), sl_word⟩) (d_word : PySem.W.codeIn K cd_word "_word" = true) (k_word : PySem.W.keepIn K (.ref f_word) = true)
    (a_is_single : PySem.W.nsIn K mainGlobals "_is_single" = some (some (.ref f_is_single))) (l_is_single : K.lookup f_is_single = some ⟨oc_is_single, od_is_single, .func (PySem.W.fnOf "_is_single" "_is_single" (defArgs s_is_single) (defBody s_is_single) (defScope s_is_single) .none kV_is_single dc_is_single pm_is_single an_is_single cd_is_single ct_is_single), sl_is_single⟩) (d_is_single : PySem.W.codeIn K cd_is_single "_is_single" = true) (k_is_single : PySem.W.keepIn K (.ref f_is_single) = true)
    (a_is_part : PySem.W.nsIn K mainGlobals "_is_part" = some (some (.ref f_is_part))) (l_is_part : K.lookup f_is_part = some ⟨oc_is_part, od_is_part, .func (PySem.W.fnOf "_is_part" "_is_part" (defArgs s_is_part) (defBody s_is_part) (defScope s_is_part) .none kV_is_part dc_is_part pm_is_part an_is_part cd_is_part ct_is_part), sl_is_part⟩) (d_is_part : PySem.W.codeIn K cd_is_part "_is_part" = true) (k_is_part : PySem.W.keepIn K (.ref f_is_part) = true)
    (a_is_all : PySem.W.nsIn K mainGlobals "_is_all" = some (some (.ref f_is_all))) (l_is_all : K.lookup f_is_all = some ⟨oc_is_all, od_is_all, .func (PySem.W.fnOf "_is_all" "_is_all" (defArgs s_is_all) (defBody s_is_all) (defScope s_is_all) .none kV_is_all dc_is_all pm_is_all an_is_all cd_is_all ct_is_all), sl_is_all⟩) (d_is_all : PySem.W.codeIn K cd_is_all "_is_all" = true) (k_is_all : PySem.W.keepIn K (.ref f_is_all) = true)
    (a_is_entry : PySem.W.nsIn K mainGlobals "is_entry" = some (some (.ref f_is_entry))) (l_is_entry : K.lookup f_is_entry = some ⟨oc_is_entry, od_is_entry, .func (PySem.W.fnOf "is_entry" "is_entry" (defArgs s_is_entry) (defBody s_is_entry) (defScope s_is_entry) .none kV_is_entry dc_is_entry pm_is_entry an_is_entry cd_is_entry ct_is_entry), sl_is_entry⟩) (d_is_entry : PySem.W.codeIn K cd_is_entry "is_entry" = true) (k_is_entry : PySem.W.keepIn K (.ref f_is_entry) = true)
    (a_is_cut : PySem.W.nsIn K mainGlobals "_is_cut_back" = some (some (.ref f_is_cut))) (l_is_cut : K.lookup f_is_cut = some ⟨oc_is_cut, od_is_cut, .func (PySem.W.fnOf "_is_cut_back" "_is_cut_back" (defArgs s_is_cut) (defBody s_is_cut) (defScope s_is_cut) .none kV_is_cut dc_is_cut pm_is_cut an_is_cut cd_is_cut ct_is_cut), sl_is_cut⟩) (d_is_cut : PySem.W.codeIn K cd_is_cut "_is_cut_back" = true) (k_is_cut : PySem.W.keepIn K (.ref f_is_cut) = true)
    (a_begun : PySem.W.nsIn K mainGlobals "_law_begun" = some (some (.ref f_begun))) (l_begun : K.lookup f_begun = some ⟨oc_begun, od_begun, .func (PySem.W.fnOf "_law_begun" "_law_begun" (defArgs s_begun) (defBody s_begun) (defScope s_begun) .none kV_begun dc_begun pm_begun an_begun cd_begun ct_begun), sl_begun⟩) (d_begun : PySem.W.codeIn K cd_begun "_law_begun" = true) (k_begun : PySem.W.keepIn K (.ref f_begun) = true)
    (a_take : PySem.W.nsIn K mainGlobals "_law_take" = some (some (.ref f_take))) (l_take : K.lookup f_take = some ⟨oc_take, od_take, .func (PySem.W.fnOf "_law_take" "_law_take" (defArgs s_take) (defBody s_take) (defScope s_take) .none kV_take dc_take pm_take an_take cd_take ct_take), sl_take⟩) (d_take : PySem.W.codeIn K cd_take "_law_take" = true) (k_take : PySem.W.keepIn K (.ref f_take) = true)
    (a_lis_name : PySem.W.nsIn K mainGlobals "_law_is_name" = some (some (.ref f_lis_name))) (l_lis_name : K.lookup f_lis_name = some ⟨oc_lis_name, od_lis_name, .func (PySem.W.fnOf "_law_is_name" "_law_is_name" (defArgs s_lis_name) (defBody s_lis_name) (defScope s_lis_name) .none kV_lis_name dc_lis_name pm_lis_name an_lis_name cd_lis_name ct_lis_name), sl_lis_name⟩) (d_lis_name : PySem.W.codeIn K cd_lis_name "_law_is_name" = true) (k_lis_name : PySem.W.keepIn K (.ref f_lis_name) = true)
    (a_lsteps : PySem.W.nsIn K mainGlobals "_law_steps" = some (some (.ref f_lsteps))) (l_lsteps : K.lookup f_lsteps = some ⟨oc_lsteps, od_lsteps, .func (PySem.W.fnOf "_law_steps" "_law_steps" (defArgs s_lsteps) (defBody s_lsteps) (defScope s_lsteps) .none kV_lsteps dc_lsteps pm_lsteps an_lsteps cd_lsteps ct_lsteps), sl_lsteps⟩) (d_lsteps : PySem.W.codeIn K cd_lsteps "_law_steps" = true) (k_lsteps : PySem.W.keepIn K (.ref f_lsteps) = true)
    (a_good : PySem.W.nsIn K mainGlobals "_law_good" = some (some (.ref f_good))) (l_good : K.lookup f_good = some ⟨oc_good, od_good, .func (PySem.W.fnOf "_law_good" "_law_good" (defArgs s_good) (defBody s_good) (defScope s_good) .none kV_good dc_good pm_good an_good cd_good ct_good), sl_good⟩) (d_good : PySem.W.codeIn K cd_good "_law_good" = true) (k_good : PySem.W.keepIn K (.ref f_good) = true)
    (a_lis_number : PySem.W.nsIn K mainGlobals "_law_is_number" = some (some (.ref f_lis_number))) (l_lis_number : K.lookup f_lis_number = some ⟨oc_lis_number, od_lis_number, .func (PySem.W.fnOf "_law_is_number" "_law_is_number" (defArgs s_lis_number) (defBody s_lis_number) (defScope s_lis_number) .none kV_lis_number dc_lis_number pm_lis_number an_lis_number cd_lis_number ct_lis_number), sl_lis_number⟩) (d_lis_number : PySem.W.codeIn K cd_lis_number "_law_is_number" = true) (k_lis_number : PySem.W.keepIn K (.ref f_lis_number) = true)
    (a_lis_part : PySem.W.nsIn K mainGlobals "_law_is_part" = some (some (.ref f_lis_part))) (l_lis_part : K.lookup f_lis_part = some ⟨oc_lis_part, od_lis_part, .func (PySem.W.fnOf "_law_is_part" "_law_is_part" (defArgs s_lis_part) (defBody s_lis_part) (defScope s_lis_part) .none kV_lis_part dc_lis_part pm_lis_part an_lis_part cd_lis_part ct_lis_part), sl_lis_part⟩) (d_lis_part : PySem.W.codeIn K cd_lis_part "_law_is_part" = true) (k_lis_part : PySem.W.keepIn K (.ref f_lis_part) = true)
    (a_lchange : PySem.W.nsIn K mainGlobals "_law_is_change" = some (some (.ref f_lchange))) (l_lchange : K.lookup f_lchange = some ⟨oc_lchange, od_lchange, .func (PySem.W.fnOf "_law_is_change" "_law_is_change" (defArgs s_lchange) (defBody s_lchange) (defScope s_lchange) .none kV_lchange dc_lchange pm_lchange an_lchange cd_lchange ct_lchange), sl_lchange⟩) (d_lchange : PySem.W.codeIn K cd_lchange "_law_is_change" = true) (k_lchange : PySem.W.keepIn K (.ref f_lchange) = true)
    (a_bent : PySem.W.nsIn K mainGlobals "_law_bent" = some (some (.ref f_bent))) (l_bent : K.lookup f_bent = some ⟨oc_bent, od_bent, .func (PySem.W.fnOf "_law_bent" "_law_bent" (defArgs s_bent) (defBody s_bent) (defScope s_bent) .none kV_bent dc_bent pm_bent an_bent cd_bent ct_bent), sl_bent⟩) (d_bent : PySem.W.codeIn K cd_bent "_law_bent" = true) (k_bent : PySem.W.keepIn K (.ref f_bent) = true)
    (a_right : PySem.W.nsIn K mainGlobals "_law_right" = some (some (.ref f_right))) (l_right : K.lookup f_right = some ⟨oc_right, od_right, .func (PySem.W.fnOf "_law_right" "_law_right" (defArgs s_right) (defBody s_right) (defScope s_right) .none kV_right dc_right pm_right an_right cd_right ct_right), sl_right⟩) (d_right : PySem.W.codeIn K cd_right "_law_right" = true) (k_right : PySem.W.keepIn K (.ref f_right) = true)
    (a_law : PySem.W.nsIn K mainGlobals "law" = some (some (.ref f_law))) (l_law : K.lookup f_law = some ⟨oc_law, od_law, .func (PySem.W.fnOf "law" "law" (defArgs s_law) (defBody s_law) (defScope s_law) .none kV_law dc_law pm_law an_law cd_law ct_law), sl_law⟩) (d_law : PySem.W.codeIn K cd_law "law" = true) (k_law : PySem.W.keepIn K (.ref f_law) = true)
    : ∃ fd : FuncData, (∀ (s : Shared) (v : Value), BindsTo s fd ⟨[v], []⟩ [("_law_script", v)]) ∧ ∀ base : Heap, K.In base → base.Ns mainGlobals mg → Hv.Keeps l.prog w K mg base CX0 26 fa fd ["_law_script"] (spLaw K) := by
  have e := hfa.symm.trans (PySem.W.mg_of X G a_law)
  cases e
  have F_is_name := fun_mk (st := s_is_name) l_is_name d_is_name k_is_name
  have F_is_path := fun_mk (st := s_is_path) l_is_path d_is_path k_is_path
  have F_is_signs := fun_mk (st := s_is_signs) l_is_signs d_is_signs k_is_signs
  have F_are_steps := fun_mk (st := s_are_steps) l_are_steps d_are_steps k_are_steps
  have F_is_step := fun_mk (st := s_is_step) l_is_step d_is_step k_is_step
  have F_is_whole := fun_mk (st := s_is_whole) l_is_whole d_is_whole k_is_whole
  have F_is_count := fun_mk (st := s_is_count) l_is_count d_is_count k_is_count
  have F_is_change := fun_mk (st := s_is_change) l_is_change d_is_change k_is_change
  have F_is_mark := fun_mk (st := s_is_mark) l_is_mark d_is_mark k_is_mark
  have F_is_what := fun_mk (st := s_is_what) l_is_what d_is_what k_is_what
  have F_word := fun_mk (st := s_word) l_word d_word k_word
  have F_is_single := fun_mk (st := s_is_single) l_is_single d_is_single k_is_single
  have F_is_part := fun_mk (st := s_is_part) l_is_part d_is_part k_is_part
  have F_is_all := fun_mk (st := s_is_all) l_is_all d_is_all k_is_all
  have F_is_entry := fun_mk (st := s_is_entry) l_is_entry d_is_entry k_is_entry
  have F_is_cut := fun_mk (st := s_is_cut) l_is_cut d_is_cut k_is_cut
  have F_begun := fun_mk (st := s_begun) l_begun d_begun k_begun
  have F_take := fun_mk (st := s_take) l_take d_take k_take
  have F_lis_name := fun_mk (st := s_lis_name) l_lis_name d_lis_name k_lis_name
  have F_lsteps := fun_mk (st := s_lsteps) l_lsteps d_lsteps k_lsteps
  have F_good := fun_mk (st := s_good) l_good d_good k_good
  have F_lis_number := fun_mk (st := s_lis_number) l_lis_number d_lis_number k_lis_number
  have F_lis_part := fun_mk (st := s_lis_part) l_lis_part d_lis_part k_lis_part
  have F_lchange := fun_mk (st := s_lchange) l_lchange d_lchange k_lchange
  have F_bent := fun_mk (st := s_bent) l_bent d_bent k_bent
  have F_right := fun_mk (st := s_right) l_right d_right k_right
  have F_law := fun_mk (st := s_law) l_law d_law k_law
  let a : Ad := ⟨f_is_name, f_is_path, f_is_signs, f_are_steps, f_is_step⟩
  let b : Bd := ⟨f_is_whole, f_is_count, f_is_change, f_is_mark, f_is_what, f_word, f_is_single, f_is_part, f_is_all, f_is_entry, f_is_cut, f_is_path, f_is_signs, ff⟩
  let c : Cd := ⟨f_begun, f_take, f_lis_name, f_lsteps, f_good, f_lis_number, f_lis_part, f_lchange, f_bent, f_right⟩
  have T : Txt K mg a := ⟨PySem.W.mg_none_of X G z_0, PySem.W.mg_none_of X G z_1, PySem.W.mg_none_of X G z_2, PySem.W.mg_none_of X G z_3, ⟨_, PySem.W.mg_of X G c_0⟩, ⟨_, PySem.W.mg_of X G c_1⟩, ⟨_, PySem.W.mg_of X G c_2⟩, ⟨_, PySem.W.mg_of X G c_3⟩, ⟨_, PySem.W.mg_of X G c_4⟩, ⟨_, PySem.W.mg_of X G c_5⟩, PySem.W.mg_of X G a_is_name, PySem.W.mg_of X G a_is_step, PySem.W.mg_of X G a_are_steps, k_is_name, k_is_step, k_are_steps⟩
  have TB : TxtB mg := ⟨PySem.W.mg_none_of X G z_4, PySem.W.mg_none_of X G z_5, PySem.W.mg_none_of X G z_6⟩
  have D : TxtD K mg a b := ⟨PySem.W.mg_none_of X G z_5, PySem.W.mg_none_of X G z_11, PySem.W.mg_none_of X G z_9, PySem.W.mg_none_of X G z_12, ⟨_, PySem.W.mg_of X G c_6⟩, ⟨_, PySem.W.mg_of X G c_7⟩, ⟨_, PySem.W.mg_of X G c_8⟩, PySem.W.mg_of X G c_forms, PySem.W.mg_of X G a_is_whole, PySem.W.mg_of X G a_is_count, PySem.W.mg_of X G a_is_change, PySem.W.mg_of X G a_is_mark, PySem.W.mg_of X G a_is_what, PySem.W.mg_of X G a_word, PySem.W.mg_of X G a_is_single, PySem.W.mg_of X G a_is_part, PySem.W.mg_of X G a_is_all, PySem.W.mg_of X G a_is_entry, PySem.W.mg_of X G a_is_cut, PySem.W.mg_of X G a_is_path, PySem.W.mg_of X G a_is_signs, k_is_whole, k_is_count, k_is_change, k_is_mark, k_is_what, k_word, k_is_single, k_is_part, k_is_all, k_is_entry, k_is_cut, k_is_path, k_is_signs⟩
  have L : TxtE K mg c := ⟨PySem.W.mg_none_of X G z_8, PySem.W.mg_none_of X G z_10, PySem.W.mg_none_of X G z_13, PySem.W.mg_none_of X G z_7, PySem.W.mg_none_of X G z_4, PySem.W.mg_none_of X G z_6, PySem.W.mg_of X G a_begun, PySem.W.mg_of X G a_take, PySem.W.mg_of X G a_lis_name, PySem.W.mg_of X G a_lsteps, PySem.W.mg_of X G a_good, PySem.W.mg_of X G a_lis_number, PySem.W.mg_of X G a_lis_part, PySem.W.mg_of X G a_lchange, PySem.W.mg_of X G a_bent, PySem.W.mg_of X G a_right, k_begun, k_take, k_lis_name, k_lsteps, k_good, k_lis_number, k_lis_part, k_lchange, k_bent, k_right⟩
  have W : Forms K w b.forms _ nn := forms_of l_forms q_forms low_forms l_t0 l_t1 l_t2 l_t3 l_t4 l_t5 l_t6 l_t7
  have B_is_name := F_is_name.binds (ps := ["thing"]) fun _ _ _ _ _ _ us hl => match us, hl with | [_], _ => rfl
  have B_is_path := F_is_path.binds (ps := ["thing"]) fun _ _ _ _ _ _ us hl => match us, hl with | [_], _ => rfl
  have B_is_signs := F_is_signs.binds (ps := ["thing"]) fun _ _ _ _ _ _ us hl => match us, hl with | [_], _ => rfl
  have B_are_steps := F_are_steps.binds (ps := ["things"]) fun _ _ _ _ _ _ us hl => match us, hl with | [_], _ => rfl
  have B_is_step := F_is_step.binds (ps := ["thing"]) fun _ _ _ _ _ _ us hl => match us, hl with | [_], _ => rfl
  have B_is_whole := F_is_whole.binds (ps := ["thing"]) fun _ _ _ _ _ _ us hl => match us, hl with | [_], _ => rfl
  have B_is_count := F_is_count.binds (ps := ["thing"]) fun _ _ _ _ _ _ us hl => match us, hl with | [_], _ => rfl
  have B_is_change := F_is_change.binds (ps := ["thing"]) fun _ _ _ _ _ _ us hl => match us, hl with | [_], _ => rfl
  have B_is_mark := F_is_mark.binds (ps := ["thing"]) fun _ _ _ _ _ _ us hl => match us, hl with | [_], _ => rfl
  have B_is_what := F_is_what.binds (ps := ["thing"]) fun _ _ _ _ _ _ us hl => match us, hl with | [_], _ => rfl
  have B_word := F_word.binds (ps := ["thing"]) fun _ _ _ _ _ _ us hl => match us, hl with | [_], _ => rfl
  have B_is_single := F_is_single.binds (ps := ["thing"]) fun _ _ _ _ _ _ us hl => match us, hl with | [_], _ => rfl
  have B_is_part := F_is_part.binds (ps := ["sort", "part"]) fun _ _ _ _ _ _ us hl => match us, hl with | [_, _], _ => rfl
  have B_is_all := F_is_all.binds (ps := ["thing"]) fun _ _ _ _ _ _ us hl => match us, hl with | [_], _ => rfl
  have B_is_entry := F_is_entry.binds (ps := ["thing"]) fun _ _ _ _ _ _ us hl => match us, hl with | [_], _ => rfl
  have B_is_cut := F_is_cut.binds (ps := ["thing"]) fun _ _ _ _ _ _ us hl => match us, hl with | [_], _ => rfl
  have B_begun := F_begun.binds (ps := ["_law_script", "_law_k"]) fun _ _ _ _ _ _ us hl => match us, hl with | [_, _], _ => rfl
  have B_take := F_take.binds (ps := ["_law_state", "_law_many"]) fun _ _ _ _ _ _ us hl => match us, hl with | [_, _], _ => rfl
  have B_lis_name := F_lis_name.binds (ps := ["_law_thing"]) fun _ _ _ _ _ _ us hl => match us, hl with | [_], _ => rfl
  have B_lsteps := F_lsteps.binds (ps := ["_law_thing"]) fun _ _ _ _ _ _ us hl => match us, hl with | [_], _ => rfl
  have B_good := F_good.binds (ps := ["_law_state"]) fun _ _ _ _ _ _ us hl => match us, hl with | [_], _ => rfl
  have B_lis_number := F_lis_number.binds (ps := ["_law_thing", "_law_most"]) fun _ _ _ _ _ _ us hl => match us, hl with | [_, _], _ => rfl
  have B_lis_part := F_lis_part.binds (ps := ["_law_sign", "_law_thing"]) fun _ _ _ _ _ _ us hl => match us, hl with | [_, _], _ => rfl
  have B_lchange := F_lchange.binds (ps := ["_law_thing"]) fun _ _ _ _ _ _ us hl => match us, hl with | [_], _ => rfl
  have B_bent := F_bent.binds (ps := ["_law_state", "_law_one"]) fun _ _ _ _ _ _ us hl => match us, hl with | [_, _], _ => rfl
  have B_right := F_right.binds (ps := ["_law_thing"]) fun _ _ _ _ _ _ us hl => match us, hl with | [_], _ => rfl
  refine ⟨PySem.W.fnOf "law" "law" (defArgs s_law) (defBody s_law) (defScope s_law) .none kV_law dc_law pm_law an_law cd_law ct_law, fun s v => .of_eq rfl, fun base _ _ => ?_⟩
  have G_is_name := ok_is_name (P := l.prog) (w := w) (base := base) F_is_name T
  have G_is_signs := ok_is_signs (P := l.prog) (w := w) (base := base) F_is_signs T
  have G_is_step := ok_is_step F_is_step T G_is_name B_is_name
  have G_are_steps := ok_are_steps F_are_steps T G_is_step B_is_step
  have G_is_path := ok_is_path F_is_path T G_are_steps B_are_steps
  have G_is_whole := ok_is_whole (P := l.prog) (w := w) (base := base) F_is_whole T D
  have G_is_count := ok_is_count F_is_count D G_is_whole B_is_whole
  have G_is_mark := ok_is_mark F_is_mark D G_is_count B_is_count
  have G_word := ok_word (P := l.prog) (w := w) (base := base) F_word T D
  have G_is_what := ok_is_what F_is_what T D G_word B_word G_is_path B_is_path
  have G_is_part := ok_is_part F_is_part T D G_is_name B_is_name G_is_signs B_is_signs G_is_mark B_is_mark G_is_what B_is_what G_is_count B_is_count
  have G_is_single := ok_is_single F_is_single T D W G_word B_word G_is_part B_is_part
  have G_is_all := ok_is_all F_is_all T D G_word B_word G_is_single B_is_single
  have G_is_change := ok_is_change F_is_change D G_is_single B_is_single G_is_all B_is_all
  have G_is_cut := ok_is_cut F_is_cut T D G_is_count B_is_count
  have G_is_entry := ok_is_entry F_is_entry D G_is_change B_is_change G_is_cut B_is_cut
  have G_begun := ok_begun (P := l.prog) (w := w) (base := base) F_begun TB
  have G_take := ok_take (P := l.prog) (w := w) (K := K) (base := base) F_take TB
  have G_lis_name := ok_lis_name (P := l.prog) (w := w) (base := base) F_lis_name T
  have G_lsteps := ok_lsteps F_lsteps T TB (PySem.W.mg_none_of X G z_9) (PySem.W.mg_of X G a_lis_name) k_lis_name G_lis_name B_lis_name
  have G_num := ok_lis_number (P := l.prog) (w := w) (base := base) F_lis_number T D
  have G_lpart := ok_lis_part F_lis_part T D L G_num B_lis_number G_lis_name B_lis_name G_lsteps B_lsteps
  have G_lchange := ok_lchange F_lchange T D L rfl B_lchange G_lpart B_lis_part 21
  have G_good := ok_good F_good L G_take B_take
  have G_bent := ok_bent F_bent T L G_take B_take
  have G_right := ok_right F_right T D L G_is_change B_is_change G_is_entry B_is_entry G_lchange B_lchange G_num B_lis_number
  exact ok_law F_law T L G_begun B_begun G_good B_good G_bent B_bent G_right B_right
end K4
open PySem PySem.W PyProof.Rows
set_option maxRecDepth 100000 in
set_option maxHeartbeats 0 in
theorem PySem.Challenge.cw_onehistory_k04_changes_by_form_holds : PySem.Challenge.rw_onehistory_k04_changes_by_form.Holds := by
  w_on; o_law; k_head; (case hw => w_witness2)
  k_fill
  refine Hv.walkK (l := PySem.Challenge.rw_onehistory_k04_changes_by_form) (n := 63) (k := 26) (x := "_law_script") (sp := K4.spLaw) rfl (by decide) rfl ⟨rfl, by decide, by decide⟩ (fun w h Y => PySem.W.kIn_of Y) ?F ?S
  case F =>
    intro w mg fa h KX G hmg
    refine' K4.all_mk KX G hmg ?c_0 ?c_1 ?c_2 ?c_3 ?c_4 ?c_5 ?c_6 ?c_7 ?c_8 ?c_forms ?l_forms ?q_forms ?low_forms ?l_t0 ?l_t1 ?l_t2 ?l_t3 ?l_t4 ?l_t5 ?l_t6 ?l_t7 ?z_0 ?z_1 ?z_2 ?z_3 ?z_4 ?z_5 ?z_6 ?z_7 ?z_8 ?z_9 ?z_10 ?z_11 ?z_12 ?z_13 ?a_is_name ?l_is_name ?d_is_name ?k_is_name ?a_is_path ?l_is_path ?d_is_path ?k_is_path ?a_is_signs ?l_is_signs ?d_is_signs ?k_is_signs ?a_are_steps ?l_are_steps ?d_are_steps ?k_are_steps ?a_is_step ?l_is_step ?d_is_step ?k_is_step ?a_is_whole ?l_is_whole ?d_is_whole ?k_is_whole ?a_is_count ?l_is_count ?d_is_count ?k_is_count ?a_is_change ?l_is_change ?d_is_change ?k_is_change ?a_is_mark ?l_is_mark ?d_is_mark ?k_is_mark ?a_is_what ?l_is_what ?d_is_what ?k_is_what ?a_word ?l_word ?d_word ?k_word ?a_is_single ?l_is_single ?d_is_single ?k_is_single ?a_is_part ?l_is_part ?d_is_part ?k_is_part ?a_is_all ?l_is_all ?d_is_all ?k_is_all ?a_is_entry ?l_is_entry ?d_is_entry ?k_is_entry ?a_is_cut ?l_is_cut ?d_is_cut ?k_is_cut ?a_begun ?l_begun ?d_begun ?k_begun ?a_take ?l_take ?d_take ?k_take ?a_lis_name ?l_lis_name ?d_lis_name ?k_lis_name ?a_lsteps ?l_lsteps ?d_lsteps ?k_lsteps ?a_good ?l_good ?d_good ?k_good ?a_lis_number ?l_lis_number ?d_lis_number ?k_lis_number ?a_lis_part ?l_lis_part ?d_lis_part ?k_lis_part ?a_lchange ?l_lchange ?d_lchange ?k_lchange ?a_bent ?l_bent ?d_bent ?k_bent ?a_right ?l_right ?d_right ?k_right ?a_law ?l_law ?d_law ?k_law
    (case c_0 => k_is)
    (case c_1 => k_is)
    (case c_2 => k_is)
    (case c_3 => k_is)
    (case c_4 => k_is)
    (case c_5 => k_is)
    (case c_6 => k_is)
    (case c_7 => k_is)
    (case c_8 => k_is)
    (case c_forms => k_is)
    (case l_forms => k_is)
    (case q_forms => k_keys)
    (case low_forms => decide)
    (case l_t0 => k_is)
    (case l_t1 => k_is)
    (case l_t2 => k_is)
    (case l_t3 => k_is)
    (case l_t4 => k_is)
    (case l_t5 => k_is)
    (case l_t6 => k_is)
    (case l_t7 => k_is)
    (case z_0 => k_is)
    (case z_1 => k_is)
    (case z_2 => k_is)
    (case z_3 => k_is)
    (case z_4 => k_is)
    (case z_5 => k_is)
    (case z_6 => k_is)
    (case z_7 => k_is)
    (case z_8 => k_is)
    (case z_9 => k_is)
    (case z_10 => k_is)
    (case z_11 => k_is)
    (case z_12 => k_is)
    (case z_13 => k_is)
    (case a_is_name => k_is)
    (case l_is_name => k_is)
    (case d_is_name => k_is)
    (case k_is_name => k_is)
    (case a_is_path => k_is)
    (case l_is_path => k_is)
    (case d_is_path => k_is)
    (case k_is_path => k_is)
    (case a_is_signs => k_is)
    (case l_is_signs => k_is)
    (case d_is_signs => k_is)
    (case k_is_signs => k_is)
    (case a_are_steps => k_is)
    (case l_are_steps => k_is)
    (case d_are_steps => k_is)
    (case k_are_steps => k_is)
    (case a_is_step => k_is)
    (case l_is_step => k_is)
    (case d_is_step => k_is)
    (case k_is_step => k_is)
    (case a_is_whole => k_is)
    (case l_is_whole => k_is)
    (case d_is_whole => k_is)
    (case k_is_whole => k_is)
    (case a_is_count => k_is)
    (case l_is_count => k_is)
    (case d_is_count => k_is)
    (case k_is_count => k_is)
    (case a_is_change => k_is)
    (case l_is_change => k_is)
    (case d_is_change => k_is)
    (case k_is_change => k_is)
    (case a_is_mark => k_is)
    (case l_is_mark => k_is)
    (case d_is_mark => k_is)
    (case k_is_mark => k_is)
    (case a_is_what => k_is)
    (case l_is_what => k_is)
    (case d_is_what => k_is)
    (case k_is_what => k_is)
    (case a_word => k_is)
    (case l_word => k_is)
    (case d_word => k_is)
    (case k_word => k_is)
    (case a_is_single => k_is)
    (case l_is_single => k_is)
    (case d_is_single => k_is)
    (case k_is_single => k_is)
    (case a_is_part => k_is)
    (case l_is_part => k_is)
    (case d_is_part => k_is)
    (case k_is_part => k_is)
    (case a_is_all => k_is)
    (case l_is_all => k_is)
    (case d_is_all => k_is)
    (case k_is_all => k_is)
    (case a_is_entry => k_is)
    (case l_is_entry => k_is)
    (case d_is_entry => k_is)
    (case k_is_entry => k_is)
    (case a_is_cut => k_is)
    (case l_is_cut => k_is)
    (case d_is_cut => k_is)
    (case k_is_cut => k_is)
    (case a_begun => k_is)
    (case l_begun => k_is)
    (case d_begun => k_is)
    (case k_begun => k_is)
    (case a_take => k_is)
    (case l_take => k_is)
    (case d_take => k_is)
    (case k_take => k_is)
    (case a_lis_name => k_is)
    (case l_lis_name => k_is)
    (case d_lis_name => k_is)
    (case k_lis_name => k_is)
    (case a_lsteps => k_is)
    (case l_lsteps => k_is)
    (case d_lsteps => k_is)
    (case k_lsteps => k_is)
    (case a_good => k_is)
    (case l_good => k_is)
    (case d_good => k_is)
    (case k_good => k_is)
    (case a_lis_number => k_is)
    (case l_lis_number => k_is)
    (case d_lis_number => k_is)
    (case k_lis_number => k_is)
    (case a_lis_part => k_is)
    (case l_lis_part => k_is)
    (case d_lis_part => k_is)
    (case k_lis_part => k_is)
    (case a_lchange => k_is)
    (case l_lchange => k_is)
    (case d_lchange => k_is)
    (case k_lchange => k_is)
    (case a_bent => k_is)
    (case l_bent => k_is)
    (case d_bent => k_is)
    (case k_bent => k_is)
    (case a_right => k_is)
    (case l_right => k_is)
    (case d_right => k_is)
    (case k_right => k_is)
    (case a_law => k_is)
    (case l_law => k_is)
    (case d_law => k_is)
    (case k_law => k_is)
  case S =>
    intro K H a ns few bits only sq
    exact ⟨a, ns, rfl, sq, few, fun _ => rfl⟩
end
