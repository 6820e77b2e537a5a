import PyProof.Rows.All
import Wide.All
import OpenK.AllK
import Wide.FinOn
import HandS.Base
import HandS.Call
import HandS.List
import HandS.Comp
import HandS.Ends
import HandS.Iter
import HandS.Words
import HandS.WordsList
import HandS.Wide
import HandS.Conv
import PyProof.ReprRoads
import KE.GoesEnumKw
import HandS.IsInst
import HandS.Zip
import HandS.SortInts
import HandS.RaiseMore
import KE.DataEq
import HandS.Evl
import HandS.Style
import PyProof.Rows.SeqMore
import HandS.Gcd
import HandS.Exc
import HandS.TryOnly
import HandS.ExcOwn
import HandS.ExcInit
import HandS.ExcIs
import HandS.ExcField
import HandS.WordsExc
import KE.KExcSuper
import KE.KExcIs
import HandS.CallSlots
import HandS.Rev
import KE.DataAny
import HandS.TupMul
import HandS.Property
import OpenK.KMeth
import OpenK.KOps
import HandS.Text
import HandS.Codes
import HandS.StrMore
import HandS.WideBits
import HandS.FStr
import HandS.More
import HandS.TryMany
import HandS.Walk
import HandS.Deep
import KE.KSortKeySt
import HandS.Dict
import HandS.DictComp
import KE.KItemsList
import KE.DataMinMax
import HandS.SortKw
import HandS.TupAny
import HandS.Small
import KE.KDictZip
import PyProof.StrReplace2
import HandS.Star
import PySem.Challenge.RW_backafter_k66_walks_by_going
set_option Elab.async false
set_option linter.all false
set_option maxRecDepth 100000
set_option maxHeartbeats 4000000
namespace Bk
open PySem PySem.Spec PyProof.Rows L2

/-! ### room, and nothing of repr on the stack -/
structure Rm (k : Nat) (A : Around) : Prop where
  rm : Room k A
  gd : A.guards = some []
theorem Rm.mono {j k : Nat} {A : Around} (r : Rm k A) (h : j ≤ k) : Rm j A := ⟨r.rm.mono h, r.gd⟩
theorem Rm.deep {k : Nat} {A : Around} (r : Rm (k + 1) A) (env : Env) : Rm k (A.deeper env) := ⟨r.rm.deeper env, r.gd⟩

/-- a def's promise where the stack holds no repr -/
structure FnG (P : Program) (w : World) (K : PySem.W.Frag) (mg : Str → Option Value) (base : Heap) (CX : CXT) (k : Nat) (f : Addr) (fd : FuncData) (ps : List Str) (sp : Sp) : Prop where
  len : ∀ vs H Q E, sp vs H Q E → vs.length = ps.length
  run : ∀ (A : Around) (out : List Env) (s : Shared) (H : Hp) (args : Args) (us : List Value) (vs : List V) (Q : VK) (E : XK), Rm k A →
    Env0 P w K mg base A out s H → BindsTo s fd args (ps.zip us) → Vals vs us → sp vs H Q E → codeAny (model P w) A (.call (.ref f) args) (CR CX out P w H s Q E) s

section
variable {P : Program} {w : World} {K : PySem.W.Frag} {mg : Str → Option Value} {base : Heap} {CX : CXT} {k : Nat} {f : Addr} {fd : FuncData} {ps : List Str} {sp : Sp}
theorem FnG.mono {j : Nat} (F : FnG P w K mg base CX j f fd ps sp) (h : j ≤ k) : FnG P w K mg base CX k f fd ps sp :=
  ⟨F.len, fun A o s H a us vs Q E r => F.run A o s H a us vs Q E (r.mono h)⟩
theorem FnG.imp {sp' : Sp} (F : FnG P w K mg base CX k f fd ps sp) (h : ∀ vs H Q E, sp' vs H Q E → sp vs H Q E) : FnG P w K mg base CX k f fd ps sp' :=
  ⟨fun vs H Q E q => F.len vs H Q E (h _ _ _ _ q), fun A o s H a us vs Q E r e b v q => F.run A o s H a us vs Q E r e b v (h _ _ _ _ q)⟩

/-- the body, for any wish about exceptions -/
theorem bodyG {x qual : Str} {st : Stmt} {N : List Str} (F : Fun K x qual st f fd) (S : FnScope N ps (defScope st)) (len : ∀ vs H Q E, sp vs H Q E → vs.length = ps.length)
    (hb : ∀ (cdv : Value) (A : Around) (out : List Env) (s : Shared) (H : Hp) (vs : List V) (Q : VK) (E : XK),
      Rm k (A.deeper (envOfC qual (defScope st) s.heap.objs.size f cdv)) → sp vs H Q E →
      ∃ t, PSs (cxOf CX P w K mg base N qual (defScope st) f cdv A out s H E) (defBody st) t ∧ t { nx := fun _ H' => Q .non H', rt := Q } (start N vs) H) :
    FnG P w K mg base CX (k + 1) f fd ps sp := by
  obtain ⟨oc, od, kV, doc, pm, an, cdv, ct, osl, rfl, lk, hcd⟩ := F.ex
  refine ⟨len, ?_⟩
  intro A out s H args us vs Q E room e0 hbd rv hsp
  have hlen := len _ _ _ _ hsp
  have inK : K.In s.heap := e0.mod.kin.keeps fun b o e => (e0.bs b o e).1
  have noL : s.heap.NoLimit := e0.mod.nolimit.keeps fun b o e => (e0.bs b o e).1
  have kinds : ∀ y ∈ ps.zip us, (defScope st).names.lookup y.1 = some .local ∨
      ((defScope st).names.lookup y.1 = some .cell ∧ ((cellsFrom (s.heap.objs.size + 1) (defScope st).names []).lookup y.1).isSome = true) := by
    intro ⟨n, v⟩ hy
    rcases S.par n (List.of_mem_zip hy).1 with q | q
    · left
      exact q
    · right
      exact ⟨q, PySem.W.cellsFrom_some _ _ _ (.inl q)⟩
  refine codeAny_call_function room.rm.depth (inK _ _ lk) rfl S.co S.gen rfl (PySem.W.codeRec_of inK hcd) (hbd _ _ _ _ ?_)
  refine wpAny_newFunctionEnv_cells S.kind kinds ?_
  intro env henv s1 x
  subst henv
  refine ⟨noL.keeps x.toInCall.keep, codeAny_func ?_⟩
  obtain ⟨t, ht, hq⟩ := hb cdv A out s H vs Q E (room.deep _) hsp
  have J0 := inv_start (CX := CX) (E := E) (f := f) (cd := cdv) S room.rm.hd e0 hlen rv x
  refine wpAny_mono (ht.run [] s1 (start N vs) H _ J0 hq) ?_ (fun _ _ hs => hs)
  intro fl s' hs
  cases fl with
  | next =>
    obtain ⟨σ', H', J, q⟩ := hs
    exact ⟨V.non, H', J.os, J.bare, J.base, J.hok, rfl, q⟩
  | ret u =>
    obtain ⟨v, σ', H', J, rr, q⟩ := hs
    exact ⟨v, H', J.os, J.bare, J.base, J.hok, rr, q⟩
  | cont =>
    obtain ⟨_, _, _, q⟩ := hs
    exact q.elim
  | brk =>
    obtain ⟨_, _, _, q⟩ := hs
    exact q.elim
/-- a def that lets no exception out -/
theorem okG {x qual : Str} {st : Stmt} {N : List Str} (F : Fun K x qual st f fd) (S : FnScope N ps (defScope st)) (len : ∀ vs H Q E, sp vs H Q E → vs.length = ps.length)
    (hb : ∀ (cdv : Value) (A : Around) (out : List Env) (s : Shared) (H : Hp) (vs : List V) (Q : VK) (E : XK),
      Rm k (A.deeper (envOfC qual (defScope st) s.heap.objs.size f cdv)) → sp vs H Q E →
      ∃ t, PSs (cxOf CX0 P w K mg base N qual (defScope st) f cdv A out s H E).nox (defBody st) t ∧ t { nx := fun _ H' => Q .non H', rt := Q } (start N vs) H) :
    FnG P w K mg base CX0 (k + 1) f fd ps sp :=
  bodyG F S len fun cdv A out s H vs Q E r q =>
    let ⟨t, h, z⟩ := hb cdv A out s H vs Q E r q
    ⟨t, h.nox, z⟩
end

/-! ### calls of such defs -/
section
variable {X : Cx} {CX : CXT} {k : Nat} {f : Addr} {fd : FuncData} {ps ks : List Str} {sp : Sp} {dvs : List V} {ds : List Value} {E : XK} {x : Str} {p pos : Pos} {e : Expr} {es : List Expr} {t tk : TA} {kws : List Keyword}
theorem endG {pins : List (Addr × Obj)} {σ : L2.St} {H : Hp} {s : Shared} {Q : VK} (I : Inv X pins σ H s) (hx : Passes CX X E) (r : Result) (s' : Shared) (h : CR CX X.stack X.prog X.w H s Q E r s') :
    (match r with | .ok (.ret u) => EP X pins σ Q u s' | .ok _ => False | .error e => X.xe e s') := by
  cases r with
  | error e => exact hx pins σ H s e s' I h
  | ok fl =>
    cases fl with
    | ret u => exact I.after h
    | _ => exact h
theorem runG {pins : List (Addr × Obj)} {σ : L2.St} {H : Hp} {s : Shared} {Q : VK} {us : List Value} {vs : List V} (F : FnG X.prog X.w X.K X.mg X.base CX k f fd ps sp) (hr : Rm k X.A) (hb : Binds X.K fd ps ds) (hd : Vals dvs ds)
    (hx : Passes CX X E) (I : Inv X pins σ H s) (r : Vals vs us) (h : sp (vs ++ dvs) H Q E) : wpAny (model X.prog X.w) X.A (call (.ref f) us) (EP X pins σ Q) X.xe s := by
  have rv := r.append hd
  have hl : (us ++ ds).length = ps.length := rv.length.symm.trans (F.len _ _ _ _ h)
  refine wpAny_call (codeAny_mono (F.run X.A X.stack s H ⟨us, []⟩ (us ++ ds) (vs ++ dvs) Q E hr I.env0 (hb s us I.kIn hl) rv h) fun r s' hq => ?_)
  have z := endG I hx r s' hq
  cases r with
  | error e => exact z
  | ok fl =>
    cases fl with
    | ret u => exact z
    | _ => exact z.elim
theorem callG (F : FnG X.prog X.w X.K X.mg X.base CX k f fd ps sp) (hr : Rm k X.A) (hg : Gl X x) (hm : X.mg x = some (.ref f)) (hk : PySem.W.keepIn X.K (.ref f) = true) (hb : Binds X.K fd ps ds) (hd : Vals dvs ds) (hx : Passes CX X E)
    (ha : PA X (e :: es) t) (hdb : (x == ("__debug__" : Str)) = false := by decide) (he : starEach (e :: es) X.env = (false, eval e X.env) :: starEach es X.env := by rfl)
    (hpl : (backTo pos (starEach es X.env)).any (·.1) = false := by rfl) : PE X (.Call (.Name x p) (e :: es) [] pos) (tCall sp dvs E t) := by
  refine ⟨fun pins s σ H Q I h => wpAny_Call_Name_kw (ld_glob I hg hm ?_ hdb)⟩
  refine PySem.W.callWith_K (h₀ := X.base) I.ok.mod.kin hk (thn (ha.run pos pins s σ H _ I h) ?_) he hpl
  intro us s1 ⟨vs, H1, I1, r, q⟩
  exact ⟨I1.kIn, runG F hr hb hd hx I1 r q⟩
theorem runGK {pins : List (Addr × Obj)} {σ : L2.St} {H : Hp} {s : Shared} {Q : VK} {us ws : List Value} {vs zs : List V} {g : List Value → List Value → List Value} {gV : List V → List V → List V}
    (F : FnG X.prog X.w X.K X.mg X.base CX k f fd ps sp) (hr : Rm k X.A) (hb : KBinds X.K fd ps ks g gV) (hx : Passes CX X E)
    (I : Inv X pins σ H s) (r : Vals vs us) (rz : Vals zs ws) (h : sp (gV vs zs) H Q E) : wpAny (model X.prog X.w) X.A (call (.ref f) us (ks.zip ws)) (EP X pins σ Q) X.xe s := by
  have rv := hb.rel r rz
  have hl : (g us ws).length = ps.length := rv.length.symm.trans (F.len _ _ _ _ h)
  refine wpAny_call (codeAny_mono (F.run X.A X.stack s H ⟨us, ks.zip ws⟩ (g us ws) (gV vs zs) Q E hr I.env0 (hb.to s us ws I.kIn hl) rv h) fun r s' hq => ?_)
  have z := endG I hx r s' hq
  cases r with
  | error e => exact z
  | ok fl =>
    cases fl with
    | ret u => exact z
    | _ => exact z.elim
end

/-! ### the end of a law -/
/-- the law's def, at the heap behind the top -/
theorem lawG {P : Program} {w : World} {K : PySem.W.Frag} {mg mb : Str → Option Value} {CX : CXT} {k : Nat} {fa a : Addr} {fd : FuncData} {x : Str} {sp : Sp} {s₁ : Shared} {vs : List Value} {ns : List Int}
    (inK : K.In s₁.heap) (hns : s₁.heap.Ns mainGlobals mg) (hb : s₁.heap.Ns builtinsNs mb) (hbb : ∀ x : Str, x ≠ "__name__" → mb x = bootBuiltins x) (hlim : s₁.heap.NoLimit) (hg : s₁.gens = #[])
    (ha : s₁.heap.get? a = some { cls := .type "list", data := .seq vs.toArray }) (hi : IntsAre vs ns) (hl : ns.length ≤ sizeLine) (hr : Rm k callerA)
    (F : ∀ base : Heap, K.In base → base.Ns mainGlobals mg → FnG P w K mg base CX k fa fd [x] sp) (hbind : ∀ (s : Shared) (u : Value), BindsTo s fd ⟨[u], []⟩ [(x, u)])
    (hsp : ∀ H : Hp, Only H → SqL K H a (ns.map V.int) → sp [.ref a] H (fun v _ => v = .bl true) fun _ _ _ => False)
    (hCX : ∀ H e s', CX [] H s₁ (fun _ _ _ => False) e s' → False) :
    codeAny (model P w) callerA (.call (.ref fa) ⟨[.ref a], []⟩) (fun r s' => r = .ok (.ret (.bool true)) ∧ OldK s₁.heap s'.heap ∧ s'.os = s₁.os ∧ AllBare s'.gens) s₁ := by
  have rv := vals_ints hi
  have go : ∀ H : Hp, Only H → SqL K H a (ns.map V.int) → HOk P w H s₁.heap → (∀ b, H b ≠ none → b = a) → (H a ≠ none → K.lookup a = none) →
      codeAny (model P w) callerA (.call (.ref fa) ⟨[.ref a], []⟩) (fun r s' => r = .ok (.ret (.bool true)) ∧ OldK s₁.heap s'.heap ∧ s'.os = s₁.os ∧ AllBare s'.gens) s₁ := by
    intro H hO hS hok only hK
    have nsd : ∀ {b : Addr} {o : Obj} {es : Array DictEntry} {ep : Nat}, s₁.heap.get? b = some o → o.data = .dict es ep → H b = none := by
      intro b o es ep e d
      cases q : H b with
      | none => rfl
      | some u =>
        obtain rfl : b = a := only b (by simp [q])
        rw [ha] at e
        cases e
        exact nomatch (show Data.seq vs.toArray _ = Data.dict es ep from d)
    have nsH : ∀ {b : Addr} {m : Str → Option Value}, s₁.heap.Ns b m → (hidT s₁.heap H).Ns b m := by
      intro b m ⟨o, es, ep, e, d, r⟩
      exact ⟨o, es, ep, hidT_get e (nsd e d), d, r⟩
    have inH : K.In (hidT s₁.heap H) := by
      intro b o e
      refine hidT_get (inK b o e) ?_
      cases q : H b with
      | none => rfl
      | some u =>
        obtain rfl : b = a := only b (by simp [q])
        rw [hK (by simp [q])] at e
        cases e
    have md : Mod K mg (hidT s₁.heap H) := ⟨inH, nsH hns, ⟨mb, nsH hb, hbb⟩, let ⟨mc, h1, h2⟩ := hlim; ⟨mc, nsH h1, h2⟩⟩
    have e0 : Env0 P w K mg (hidT s₁.heap H) callerA [] s₁ H :=
      ⟨rfl, md, fun b o e => of_hidT e, Nat.le_of_eq (hidT_size _ _), trivial, fun b hb => (List.not_mem_nil hb).elim, hok, .of_eq hg⟩
    refine codeAny_mono ((F _ inH (nsH hns)).run callerA [] s₁ H ⟨[.ref a], []⟩ [.ref a] [.ref a] _ _ hr e0 (hbind s₁ (.ref a)) (.cons rfl .nil) (hsp H hO hS)) ?_
    intro r s' h
    cases r with
    | error e => exact (hCX H e s' h).elim
    | ok fl =>
      cases fl with
      | ret u =>
        obtain ⟨v, H', os, bare, un, hok', r', q⟩ := h
        obtain rfl : v = .bl true := q
        obtain rfl : u = Value.bool true := r'
        refine ⟨rfl, OldK.of_keep ?_, os, bare⟩
        intro b o e
        cases q : H b with
        | none => exact un.keep b o e q (fun z => (List.not_mem_nil z).elim) (fun z => (List.not_mem_nil z).elim)
        | some u =>
          rcases hO b with z | ⟨ob, xs, z⟩
          · rw [q] at z
            cases z
          · obtain ⟨e1, _⟩ := hok b _ z
            obtain ⟨e2, _⟩ := hok' b _ (un.frzs b ob _ z)
            rw [e] at e1
            cases e1
            exact e2
      | _ => exact h.elim
  cases hk : K.lookup a with
  | some o =>
    have e := inK a o hk
    rw [ha] at e
    cases e
    refine go (fun _ => none) (fun _ => .inl rfl) (.inr ⟨_, vs.toArray, _, hk, rfl, rfl, rfl, ?_, by simpa using rv⟩) (fun b u z => nomatch z) (fun b z => (z rfl).elim) fun z => (z rfl).elim
    rw [List.size_toArray, hi.length]
    exact hl
  | none =>
    refine go (fun b => if b = a then some (.frz { cls := .type "list", data := .seq vs.toArray } (.lst (ns.map V.int))) else none) ?_ (.inl (.inr ⟨{ cls := .type "list", data := .seq vs.toArray }, if_pos rfl⟩)) ?_ ?_ fun _ => hk
    · intro b
      by_cases c : b = a
      · exact .inr ⟨_, _, if_pos c⟩
      · exact .inl (if_neg c)
    · intro b u z
      dsimp only at z
      by_cases c : b = a
      · rw [if_pos c] at z
        cases z
        subst c
        refine ⟨ha, ?_, vs, _, rv, ha⟩
        rw [List.length_map]
        exact hl
      · rw [if_neg c] at z
        cases z
    · intro b z
      by_cases c : b = a
      · exact c
      · exact (z (if_neg c)).elim

theorem walkG {l : PySem.W.OpenLaw} {n k : Nat} {q : Program} {loose : List Str} {XP : (Str → Option Value) → Heap → Prop} {YP : World → Heap → Prop} {d : DefRec} {K : Params → PySem.W.Frag} {CX : World → CXT} {sp : World → Sp} {x : Str}
    (hn : l.most = some n) (hn2 : n ≤ sizeLine) (hdf : d.params.defaults = []) (hr : Rm k callerA)
    (hY : ∀ (w : World) (h : Heap), YP w h → (K w.params).In h)
    (F : ∀ (w : World) (mg : Str → Option Value) (fa : Addr) (h : Heap), (K w.params).In h → h.Ns mainGlobals mg → mg d.name = some (.ref fa) →
      ∃ fd : FuncData, (∀ (s : Shared) (u : Value), BindsTo s fd ⟨[u], []⟩ [(x, u)]) ∧
        ∀ base : Heap, (K w.params).In base → base.Ns mainGlobals mg → FnG l.prog w (K w.params) mg base (CX w) k fa fd [x] (sp w))
    (hsp : ∀ (w : World) (H : Hp) (a : Addr) (ns : List Int), ns.length ≤ n → Only H → SqL (K w.params) H a (ns.map V.int) → sp w [.ref a] H (fun v _ => v = .bl true) fun _ _ _ => False)
    (hCX : ∀ (w : World) (H : Hp) (s : Shared) (e : Value) (s' : Shared), CX w [] H s (fun _ _ _ => False) e s' → False) :
    PySem.W.WalkO q loose XP YP l.row.toRowW d [] (fun f vs => PySem.call f vs) := by
  refine Att.attach_call hn hdf ?_
  intro w s₀ s₁ mg mb fa o pm cd doc a vs ns G Y ho hd hcd hmg hobj hints hlen hg
  have inK := hY w _ Y
  obtain ⟨fd, hb, hF⟩ := F w mg fa _ inK G.T.g hmg
  exact lawG inK G.T.g G.T.b G.T.builtins G.T.nolimit hg hobj hints (Nat.le_trans hlen hn2) hr hF hb (fun H hO hS => hsp w H a ns hlen hO hS) fun H e s' => hCX w H s₁ e s'

/-! ### repr of data -/
def rRepr (K : PySem.W.Frag) : List V → Hp → VK → Prop := fun xs H Q => ∃ (a : Addr) (d : PyData), xs = [.ref a] ∧ Dp K H (.ref a) d ∧ d.showable = true ∧ d.hasDict = false ∧ d.depth ≤ 60 ∧ d.shown.length ≤ sizeLine ∧ Q (.str d.shown) H
theorem call_repr {X : Cx} (hg : X.A.guards = some []) (hu : X.A.units + 64 < cLine) : CallR X (.builtin "repr") (rRepr X.K) := by
  intro pins s σ H xs us Q I r h
  obtain ⟨a, d, rfl, hd, hs, hn, hp, hz, q⟩ := h
  obtain ⟨u, rfl, ru⟩ := vals1 r
  cases (show u = Value.ref a from ru)
  obtain ⟨as, rd⟩ := Dp.reads I d (.ref a) (.ref a) hd rfl
  refine repr_of_reads' rd hs (fun z => by rw [hn] at z; cases z) hg (by omega) (fun _ _ e => e) (fun h' u tk hk => ?_) hz
  exact ⟨.str d.shown, H, I.kept hk, ⟨u, rfl⟩, q⟩
end Bk
namespace Bk
open PySem PySem.Spec PyProof.Rows L2

/-! ### enumerate(list, start=k) -/
theorem callWith_clsKw {M : Model} {A : Around} {E : Value → Shared → Prop} {s : Shared} {env : Env} {pos : Pos} {T : String} {e : Expr} {rest : List Expr} {kws : List Keyword} {Q : Value → Shared → Prop}
    (h : wpAny M A (spliced (backTo pos (starEach (e :: rest) env))) (fun vs s₁ => wpAny M A (evalAll ((backToKw pos (keywordEach kws env)).map (·.2)))
      (fun ks s₂ => wpAny M A (call (.type T) vs (((backToKw pos (keywordEach kws env)).filterMap (·.1)).zip ks)) Q E s₂) E s₁) E s)
    (hall : (backToKw pos (keywordEach kws env)).all (·.1.isSome) = true)
    (hplain : (backTo pos (starEach (e :: rest) env)).any (·.1) = false) (hkw : (backToKw pos (keywordEach kws env)).any (·.1.isNone) = false)
    (he : backTo pos (starEach (e :: rest) env) = (false, eval e env) :: backTo pos (starEach rest env)) :
    wpAny M A (callWith pos (.type T) [] (backTo pos (starEach (e :: rest) env)) (backToKw pos (keywordEach kws env))) Q E s := by
  have h2 : wpAny M A (evalArgs (.type T) true (backTo pos (starEach (e :: rest) env)) (backToKw pos (keywordEach kws env))) (fun a s₁ => wpAny M A (call (.type T) ([] ++ a.pos) a.kw) Q E s₁) E s := by
    rw [he] at h ⊢
    exact PyProof.Rows.evalArgs_kwB hall h
  unfold callWith
  refine wpAny_bind (wpAny_holding (wpAny_mono h2 (fun a s₁ h₁ => wpAny_bind (wpAny_standAt ?_)) fun _ _ x => x))
  simp only [hplain, hkw, Bool.or_false]
  refine wpAny_bind (wpAny_pure ?_)
  exact wpAny_bind (wpAny_mono h₁ (fun r s₂ hr => wpAny_bind (wpAny_holding (wpAny_point (wpAny_pure hr)))) fun _ _ x => x)

/-- the list at a, each item in a new pair, counted from c -/
def Itn (K : PySem.W.Frag) (a : Addr) (c : Int) : It :=
  ⟨fun i H => ∃ (xs : List V) (x : V), SqL K H a xs ∧ xs[i]? = some x,
   fun i H v H' => ∃ T x, v = .ref T ∧ H T = none ∧ H' = upd H T (.tup [.int (c + (i : Nat)), x]) ∧ ∀ xs, SqL K H a xs → xs[i]? = some x,
   fun i H => ∃ xs : List V, SqL K H a xs ∧ i = xs.length⟩

theorem turn_enumC {P : Program} {w : World} {K : PySem.W.Frag} {elts : List Expr} {kk : Nat} {tpos : Pos} (a e it : Addr) (c : Int) :
    Turn P w K (.Tuple elts kk tpos) (Itn K a c) [e, it] e (fun i h => (∃ old, IsEnum h e it (c + ((i : Nat) : Int)) old) ∧ h.IsListIter it a i ∧ e ≠ it) where
  mem := List.mem_cons_self
  obj := by
    intro i h st b hb
    obtain ⟨⟨old, he⟩, ⟨o, ho, hc, hd⟩, _⟩ := st
    rcases (show b = e ∨ b = it by simpa using hb) with z | z
    · rw [z]
      exact ⟨_, he, fun v q => nomatch q⟩
    · rw [z]
      exact ⟨o, ho, fun v q => by rw [hd] at q; cases q⟩
  keep := by
    intro i h h' st k
    obtain ⟨⟨old, he⟩, hi, hne⟩ := st
    exact ⟨⟨old, k e (by simp) _ he⟩, hi.at fun o q => k it (by simp) o q, hne⟩
  item := by
    intro X hP hw hK hc i pins s σ H E I hf st hg
    subst hP hw hK
    obtain ⟨⟨old, he⟩, hit, hne⟩ := st
    obtain ⟨xs, x, hq, hx⟩ := hg
    obtain ⟨its, rv, p, hz⟩ := I.list hq
    obtain ⟨u, hu, ru⟩ := rv.get hx
    have hel : e < s.heap.objs.size := Heap.lt_size he
    have hil : it < s.heap.objs.size := by
      obtain ⟨_, q, _⟩ := hit
      exact Heap.lt_size q
    have hai : a ≠ it := by
      intro z
      obtain ⟨o1, q1, c1, d1⟩ := hit
      obtain ⟨o2, n2, q2, c2, _⟩ := p
      rw [z, q1] at q2
      cases q2
      rw [c1] at c2
      exact absurd c2 (by decide)
    have hae : e ≠ a := by
      intro z
      obtain ⟨o2, n2, q2, c2, _⟩ := p
      have q3 : s.heap.get? a = _ := z ▸ he
      rw [q3] at q2
      cases q2
      exact absurd (show Value.type "enumerate" = Value.type "list" from c2) (by decide)
    have hi : i < its.toArray.size := by
      have := (List.getElem?_eq_some_iff.mp hu).1
      simpa using this
    refine wpAny_pyNext_enum_itemC (Draws.list (by show X.A.handled = none; exact I.ok.hd hc) it a hai its.toArray) he ⟨hit, p.isList⟩ hi hne (by simp [hne, hae]) ?_
    intro y h' tk hy ho st' hT hsz hk
    have ey : y = u := by
      have : its.toArray[i]? = some u := by simpa using hu
      rw [this] at hy
      exact (Option.some.inj hy).symm
    subst ey
    refine ⟨_, rfl, wpAny_letOwnedTupleGo_enum (s := { s with heap := h', toks := tk + 1 }) ho ?_⟩
    intro h'' he' sb
    have hT2 : h''.get? s.heap.objs.size = some { cls := .type "tuple", data := .seq #[.int (c + (i : Nat)) tk, y] } := (sb.2 _ (Nat.ne_of_gt hel)).trans hT
    have new : ObjOk X.prog X.w (upd H s.heap.objs.size (.tup [.int (c + (i : Nat)), x])) h'' s.heap.objs.size (.tup [.int (c + (i : Nat)), x]) :=
      ⟨by show 2 ≤ sizeLine; decide, [.int (c + (i : Nat)) tk, y], .cons ⟨_, rfl⟩ (.cons ru .nil), ⟨_, hT2, rfl, _, rfl⟩⟩
    have I1 : Inv X pins σ (upd H s.heap.objs.size (.tup [.int (c + (i : Nat)), x])) { s with heap := h'', toks := tk + 1 } := by
      refine I.turnedNew (ch := [e, it]) ?_ hf (Nat.le_refl _) new
      intro b ob hb q
      exact (sb.2 b (fun z => hb (by simp [z]))).trans (hk b ob (fun z => hb (by simp [z])) (fun z => hb (by simp [z])) q)
    refine ⟨.ref s.heap.objs.size, _, I1, rfl, ⟨_, x, rfl, I.hok.fresh (Nat.le_refl _), rfl, fun ys hy => ?_⟩, ⟨⟨y, ?_⟩, st'.1.at fun o q => (sb.2 it (Ne.symm hne)).trans q, hne⟩, fun b hb => ?_⟩
    · rw [I.list_inj hy hq]
      exact hx
    · have e1 : c + ((i + 1 : Nat) : Int) = c + (i : Int) + 1 := by omega
      rw [e1]
      exact he'
    · have hb' : b < s.heap.objs.size := by
        rcases (show b = e ∨ b = it by simpa using hb) with z | z
        · exact z ▸ hel
        · exact z ▸ hil
      rw [upd_ne (Nat.ne_of_lt hb')]
      exact (hf b hb).1
  done := by
    intro X hP hw hK hc i pins s σ H E I hf st hg
    subst hP hw hK
    obtain ⟨⟨old, he⟩, hit, hne⟩ := st
    obtain ⟨xs, hq, hx⟩ := hg
    obtain ⟨its, rv, p, hz⟩ := I.list hq
    obtain ⟨f0, f1, f2, f3, f4, f5⟩ := hf it (by simp)
    have hl := rv.length
    have hai : a ≠ it := by
      intro z
      obtain ⟨o1, q1, c1, d1⟩ := hit
      obtain ⟨o2, n2, q2, c2, _⟩ := p
      rw [z, q1] at q2
      cases q2
      rw [c1] at c2
      exact absurd c2 (by decide)
    have hn : i = its.toArray.size := by
      simp
      omega
    have st : s.heap.IsListIter it a its.toArray.size ∧ s.heap.IsList a its.toArray := ⟨hn ▸ hit, p.isList⟩
    refine wpAny_pyNext_enum_endD (Draws.list (by show X.A.handled = none; exact I.ok.hd hc) it a hai its.toArray) he st ?_
    intro h' eb
    exact ⟨rfl, I.turned (t' := s.toks) (fun b o hb q => eb b o hb q) f0 f1 f3 f4 f5⟩
  self := fun A i s Q E st h => by
    obtain ⟨⟨_, he⟩, _⟩ := st
    exact wpAny_pyIter_enum he h

def iEnumC (K : PySem.W.Frag) (ta : TA) (c : Int) : TI := fun σ H R => ta σ H fun vs H1 => ∃ a xs, vs = [.ref a] ∧ SqL K H1 a xs ∧ R (Itn K a c) H1
theorem pi_enumC {X : Cx} {e : Expr} {ta : TA} {p pos tpos kpos cpos : Pos} {elts : List Expr} {kk j : Nat} {c : Int} (hg : Gl X "enumerate") (hm : X.mg "enumerate" = none) (ha : PA X [e] ta)
    (hs : starEach [e] X.env = [(false, eval e X.env)] := by rfl) (h0 : -(2 ^ 63) ≤ c := by decide) (h1 : c < 2 ^ 63 := by decide)
    (hall : (backToKw pos (keywordEach [⟨some "start", .Constant (.int c) j cpos, kpos⟩] X.env)).all (·.1.isSome) = true := by rfl)
    (hks : (backToKw pos (keywordEach [⟨some "start", .Constant (.int c) j cpos, kpos⟩] X.env)).filterMap (·.1) = [Str.ofString "start"] := by rfl)
    (hnone : (backToKw pos (keywordEach [⟨some "start", .Constant (.int c) j cpos, kpos⟩] X.env)).any (·.1.isNone) = false := by rfl)
    (hpl : (backTo pos (starEach [e] X.env)).any (·.1) = false := by rfl) :
    PI X (.Tuple elts kk tpos) (.Call (.Name "enumerate" p) [e] [⟨some "start", .Constant (.int c) j cpos, kpos⟩] pos) (iEnumC X.K ta c) := by
  refine ⟨fun pins s σ H R I h => ?_⟩
  refine wpAny_Call_Name_kw (ld_blt I hg hm boot_enumerate ?_)
  refine callWith_clsKw (thn (ha.run pos pins s σ H _ I h) fun us s1 ⟨vs, H1, I1, r1, q1⟩ => thn ((pk_cons pe_int pk_nil).run pos pins s1 σ H1 _ I1 (show tCons (tC (.int c)) tNil σ H1 (fun zs H2 => zs = [.int c] ∧ H2 = H1) from ⟨rfl, rfl⟩)) fun ws s2 ⟨zs, H2, I2, r2, e2, e3⟩ => ?_) hall hpl hnone (by rw [hs]; rfl)
  subst e2 e3
  obtain ⟨a, xs, ex, hq, q⟩ := q1
  subst ex
  rw [hks]
  obtain ⟨u, rfl, ru⟩ := vals1 r1
  obtain ⟨v, rfl, t, rfl⟩ := vals1 r2
  cases (show u = Value.ref a from ru)
  obtain ⟨its, rv, p', hz⟩ := I2.list hq
  refine enum_begins_start (begins_list a its.toArray) p'.isList h0 h1 fun h' he hit hsz hk => wpAny_pyIter_enum he ?_
  have I3 : Inv X pins σ H2 { s2 with heap := h' } := I2.kept (t' := s2.toks) hk
  refine ⟨s2.heap.objs.size + 1, [s2.heap.objs.size + 1, s2.heap.objs.size], _, _, H2, rfl, I3, turn_enumC a (s2.heap.objs.size + 1) s2.heap.objs.size c, ⟨⟨.none, ?_⟩, ⟨_, hit, rfl, rfl⟩, Nat.succ_ne_self _⟩, fun b hb => ?_, q⟩
  · rw [show c + ((0 : Nat) : Int) = c by omega]
    exact he
  · have hle : s2.heap.objs.size ≤ b := by
      rcases (show b = s2.heap.objs.size + 1 ∨ b = s2.heap.objs.size by simpa using hb) with z | z
      · rw [z]
        exact Nat.le_succ _
      · rw [z]
        exact Nat.le_refl _
    exact I2.fpOk hle (I2.hok.fresh hle)

/-! ### powers of great numbers -/
def CPowW (i j : Int) : Prop := 0 ≤ j ∧ j ≤ 64 ∧ i.natAbs < 2 ^ 1000
theorem op_powW {X : Cx} : OpR X (binaryOp .Pow) (rI CPowW fun i j => .int (i ^ j.toNat)) := opI fun i j _ _ _ _ _ hc q => by
  obtain ⟨h0, h1, h2⟩ := hc
  refine PyProof.Rows.pow_int h0 ?_ q
  have hb : Builtin.Int.intBits i ≤ 1000 := by
    unfold Builtin.Int.intBits
    split
    · omega
    · rename_i hne
      have : i.natAbs ≠ 0 := by
        intro z
        apply hne
        simp only [beq_iff_eq]
        omega
      have := (Nat.log2_lt this).mpr h2
      omega
  have : (Builtin.Int.intBits i : Int) * j ≤ 1000 * 64 := Int.mul_le_mul (by omega) h1 h0 (by omega)
  omega
end Bk
namespace Bk
open PySem PySem.Spec PyProof.Rows L2

/-! ### heaps that grow, but for one object -/
def But (a : Addr) (H H' : Hp) : Prop := ∀ b o, b ≠ a → H b = some o → H' b = some o
theorem But.refl (a : Addr) (H : Hp) : But a H H := fun _ _ _ h => h
theorem But.trans {a : Addr} {H H1 H2 : Hp} (x : But a H H1) (y : But a H1 H2) : But a H H2 := fun b o n h => y b o n (x b o n h)
theorem But.same {a : Addr} {H H1 : Hp} (x : Same H H1) : But a H H1 := fun b o _ h => x b o h
theorem But.new {a p : Addr} {H : Hp} {o : HO} (n : H p = none) : But a H (upd H p o) := fun b u _ h => by
  rw [upd_ne (ne_of_none h n)]
  exact h
theorem But.at {a : Addr} {H : Hp} {o : HO} : But a H (upd H a o) := fun b u n h => by
  rw [upd_ne n]
  exact h
/-- an object that was not there at H may change -/
theorem But.own {a p : Addr} {H H1 : Hp} {o : HO} (x : But a H H1) (n : H p = none) : But a H (upd H1 p o) := fun b u m h => by
  rw [upd_ne (ne_of_none h n)]
  exact x b u m h
theorem Same.new {p : Addr} {H : Hp} {o : HO} (n : H p = none) : Same H (upd H p o) := fun b u h => by
  rw [upd_ne (ne_of_none h n)]
  exact h
theorem Same.own {p : Addr} {H H1 : Hp} {o : HO} (x : Same H H1) (n : H p = none) : Same H (upd H1 p o) := fun b u h => by
  rw [upd_ne (ne_of_none h n)]
  exact x b u h
theorem Same.but {a : Addr} {H H1 H2 : Hp} (x : Same H H1) (n : H a = none) (y : But a H1 H2) : Same H H2 := fun b o h => y b o (ne_of_none h n) (x b o h)
theorem But.free {a b : Addr} {H H' : Hp} (x : But a H H') (n : b ≠ a) (h : H' b = none) : H b = none := by
  cases q : H b with
  | none => rfl
  | some o =>
    rw [x b o n q] at h
    cases h
theorem But.seq {K : PySem.W.Frag} {a b : Addr} {H H' : Hp} {xs : List V} (x : But a H H') (n : b ≠ a) (h : SqL K H b xs) : SqL K H' b xs := by
  rcases h with (h | ⟨o, h⟩) | h
  · exact .inl (.inl (x _ _ n h))
  · exact .inl (.inr ⟨o, x _ _ n h⟩)
  · exact .inr h
theorem But.seqT {K : PySem.W.Frag} {a b : Addr} {H H' : Hp} {xs : List V} (x : But a H H') (n : b ≠ a) (h : SqT K H b xs) : SqT K H' b xs := by
  rcases h with (h | ⟨o, h⟩) | h
  · exact .inl (.inl (x _ _ n h))
  · exact .inl (.inr ⟨o, x _ _ n h⟩)
  · exact .inr h
theorem Same.seqT {K : PySem.W.Frag} {b : Addr} {H H' : Hp} {xs : List V} (x : Same H H') (h : SqT K H b xs) : SqT K H' b xs := by
  rcases h with (h | ⟨o, h⟩) | h
  · exact .inl (.inl (x _ _ h))
  · exact .inl (.inr ⟨o, x _ _ h⟩)
  · exact .inr h

/-! ### lists of ints -/
abbrev vi (ns : List Int) : List V := ns.map V.int
abbrev di (ns : List Int) : List PyData := ns.map PyData.int
theorem vi_get {ns : List Int} {i : Nat} {x : Int} (h : ns[i]? = some x) : (vi ns)[i]? = some (.int x) := by
  rw [List.getElem?_map, h]
  rfl
theorem vi_at {ns : List Int} {i : Nat} (h : i < ns.length) : (vi ns)[i]? = some (.int ns[i]) := vi_get (List.getElem?_eq_getElem h)
theorem dpAll_ints (K : PySem.W.Frag) (H : Hp) : ∀ ns : List Int, DpAll K H (vi ns) (di ns)
  | [] => .nil
  | n :: r => .cons (.int n) (dpAll_ints K H r)
theorem dp_lst {K : PySem.W.Frag} {H : Hp} {a : Addr} {ns : List Int} (h : SqL K H a (vi ns)) : Dp K H (.ref a) (.list (di ns)) := .lst h (dpAll_ints K H ns)
theorem dp_tup {K : PySem.W.Frag} {H : Hp} {a : Addr} {ns : List Int} (h : SqT K H a (vi ns)) : Dp K H (.ref a) (.tuple (di ns)) := .tup h (dpAll_ints K H ns)
theorem canLay_ints : ∀ ns : List Int, PyData.canLayAll0 (di ns) = true
  | [] => rfl
  | n :: r => by simp [PyData.canLayAll0, PyData.canLay0, canLay_ints r]
theorem depthAll_ints : ∀ ns : List Int, PyData.depthAll (di ns) = 0
  | [] => rfl
  | n :: r => by simp [PyData.depthAll, PyData.depth, depthAll_ints r]
theorem shaped_l (ns : List Int) : SeqAt.shaped (.list (di ns)) = true := by
  simp [SeqAt.shaped, PyData.canLay0, canLay_ints, PyData.depth, depthAll_ints]
theorem shaped_t (ns : List Int) : SeqAt.shaped (.tuple (di ns)) = true := by
  simp [SeqAt.shaped, PyData.canLay0, canLay_ints, PyData.depth, depthAll_ints]
theorem eqvAll_ints : ∀ ns ms : List Int, PyData.eqvAll (di ns) (di ms) = decide (ns = ms)
  | [], [] => rfl
  | [], m :: r => by simp [PyData.eqvAll]
  | n :: r, [] => by simp [PyData.eqvAll]
  | n :: r, m :: q => by
    have ih := eqvAll_ints r q
    simp only [List.map_cons, PyData.eqvAll, PyData.eqv, ih]
    by_cases h1 : n = m
    · by_cases h2 : r = q
      · simp [h1, h2]
      · simp [h1, h2]
    · simp [h1]
theorem eqv_l (ns ms : List Int) : PyData.eqv (.list (di ns)) (.list (di ms)) = decide (ns = ms) := by
  rw [PyData.eqv]
  exact eqvAll_ints ns ms
theorem eqv_t (ns ms : List Int) : PyData.eqv (.tuple (di ns)) (.tuple (di ms)) = decide (ns = ms) := by
  rw [PyData.eqv]
  exact eqvAll_ints ns ms

/-! ### how long a text of data is -/
def wide (k : Nat) (ns : List Int) : Prop := ∀ n ∈ ns, n.natAbs.log2 < k
theorem wide.mono {j k : Nat} {ns : List Int} (h : wide j ns) (hk : j ≤ k) : wide k ns := fun n m => Nat.lt_of_lt_of_le (h n m) hk
theorem wide_lt {k : Nat} {ns : List Int} (h0 : 0 < k) (h : ∀ n ∈ ns, n.natAbs < 2 ^ k) : wide k ns := fun n m => PySem.Flt.log2_lt_of h0 (h n m)
theorem textFrom_le : ∀ (ts : List Str) (k L : Nat) (acc : Str), (∀ t ∈ ts, t.length ≤ L) → (textFrom k acc ts).length ≤ acc.length + (L + 2) * ts.length
  | [], k, L, acc, h => Nat.le_refl _
  | t :: r, k, L, acc, h => by
    have h1 := h t List.mem_cons_self
    have ih := textFrom_le r (k + 1) L (acc ++ (if k > 0 then ", " else "" : String) ++ t) fun u m => h u (List.mem_cons_of_mem _ m)
    show (textFrom (k + 1) (acc ++ (if k > 0 then ", " else "" : String) ++ t) r).length ≤ _
    refine Nat.le_trans ih ?_
    rw [strLen_append, strLen_append, List.length_cons, Nat.mul_add]
    have e : ((if k > 0 then ", " else "" : String) : Str).length ≤ 2 := by
      split
      · exact Nat.le_refl 2
      · exact Nat.zero_le 2
    omega
theorem listText_le {ts : List Str} {L : Nat} (h : ∀ t ∈ ts, t.length ≤ L) : (listText ts).length ≤ (L + 2) * ts.length + 2 := by
  unfold listText
  rw [strLen_append]
  have := textFrom_le ts 0 L "[" h
  have e1 : (("[" : String) : Str).length = 1 := rfl
  have e2 : (("]" : String) : Str).length = 1 := rfl
  omega
theorem piled_le : ∀ {ts : List Str} {L : Nat}, (∀ t ∈ ts, t.length ≤ L) → piled ts ≤ (L + 2) * ts.length
  | [], L, _ => by simp [piled]
  | t :: r, L, h => by
    have := h t List.mem_cons_self
    have ih := piled_le (ts := r) (L := L) fun u m => h u (List.mem_cons_of_mem _ m)
    rw [piled_cons, List.length_cons, Nat.mul_add]
    omega
theorem tupleText_le {ts : List Str} {L : Nat} (h : ∀ t ∈ ts, t.length ≤ L) : (tupleText ts).length ≤ (L + 2) * ts.length + 3 := by
  unfold tupleText
  rw [strLen_append, strLen_append]
  have e1 : ((("(" : String) : Str)).length = 1 := rfl
  have e3 : (((if ts.length == 1 then ",)" else ")" : String) : Str)).length ≤ 2 := by split <;> decide
  rw [e1]
  by_cases hn : ts = []
  · subst hn
    have : (Str.join ", " ([] : List Str)).length = 0 := rfl
    omega
  · have j := join_length_add ts hn
    have p := piled_le h
    omega
theorem shownAll_ints : ∀ ns : List Int, PyData.shownAll (di ns) = ns.map fun i => (toString i : Str)
  | [] => rfl
  | n :: r => by
    show PyData.shown (.int n) :: PyData.shownAll (di r) = _
    rw [shownAll_ints r, PyData.shown]
    rfl
theorem shown_le {k : Nat} {ns : List Int} (hk : 0 < k) (h : wide k ns) : ∀ t ∈ PyData.shownAll (di ns), t.length ≤ k + 1 := by
  intro t m
  rw [shownAll_ints] at m
  obtain ⟨i, hi, rfl⟩ := List.mem_map.mp m
  rw [PySem.ofString_length]
  exact int_text_length_le hk (h i hi)
theorem showable_ints : ∀ {ns : List Int}, wide 1920 ns → PyData.showableAll (di ns) = true
  | [], _ => rfl
  | n :: r, h => by
    have h1 : n.natAbs.log2 < 1920 := h n List.mem_cons_self
    have h2 := showable_ints (ns := r) fun m hm => h m (List.mem_cons_of_mem _ hm)
    simp [PyData.showableAll, PyData.showable, h1, h2]
theorem noDict_ints : ∀ ns : List Int, PyData.hasDictAll (di ns) = false
  | [] => rfl
  | n :: r => by simp [PyData.hasDictAll, PyData.hasDict, noDict_ints r]
/-- what repr asks of a list, a tuple of ints -/
theorem repr_l {K : PySem.W.Frag} {H : Hp} {a : Addr} {ns : List Int} {Q : VK} (h : SqL K H a (vi ns)) (hw : wide 1900 ns) (hl : ns.length ≤ 4000) (q : Q (.str (PyData.list (di ns)).shown) H) : rRepr K [.ref a] H Q := by
  refine ⟨a, .list (di ns), rfl, dp_lst h, ?_, ?_, ?_, ?_, q⟩
  · simp [PyData.showable, showable_ints (hw.mono (by decide))]
  · simp [PyData.hasDict, noDict_ints]
  · simp [PyData.depth, depthAll_ints]
  · rw [PyData.shown]
    have := listText_le (shown_le (by decide) hw)
    rw [shownAll_ints, List.length_map, ← shownAll_ints] at this
    rw [sizeLine_eq]
    omega
theorem repr_t {K : PySem.W.Frag} {H : Hp} {a : Addr} {ns : List Int} {Q : VK} (h : SqT K H a (vi ns)) (hw : wide 1900 ns) (hl : ns.length ≤ 4000) (q : Q (.str (PyData.tuple (di ns)).shown) H) : rRepr K [.ref a] H Q := by
  refine ⟨a, .tuple (di ns), rfl, dp_tup h, ?_, ?_, ?_, ?_, q⟩
  · simp [PyData.showable, showable_ints (hw.mono (by decide))]
  · simp [PyData.hasDict, noDict_ints]
  · simp [PyData.depth, depthAll_ints]
  · rw [PyData.shown]
    have := tupleText_le (shown_le (by decide) hw)
    rw [shownAll_ints, List.length_map, ← shownAll_ints] at this
    rw [sizeLine_eq]
    omega
end Bk
namespace Bk
open PySem PySem.Spec PyProof.Rows L2 Evl

section
variable {X : Cx} {CX : CXT} {k : Nat} {f : Addr} {fd : FuncData} {ps ks : List Str} {sp : Sp} {E : XK} {x : Str} {p pos : Pos} {tk : TA} {kws : List Keyword}
/-- f(k = v, ..) -/
theorem callGK0 {g : List Value → List Value → List Value} {gV : List V → List V → List V} (F : FnG X.prog X.w X.K X.mg X.base CX k f fd ps sp) (hr : Rm k X.A) (hg : Gl X x) (hm : X.mg x = some (.ref f)) (hk : PySem.W.keepIn X.K (.ref f) = true)
    (hb : KBinds X.K fd ps ks g gV) (hx : Passes CX X E) (hkw : PK X kws tk) (hall : (backToKw pos (keywordEach kws X.env)).all (·.1.isSome) = true := by rfl)
    (hks : (backToKw pos (keywordEach kws X.env)).filterMap (·.1) = ks := by rfl) (hdb : (x == ("__debug__" : Str)) = false := by decide)
    (hpl : ((backTo pos (starEach [] X.env)).any (·.1) || (backToKw pos (keywordEach kws X.env)).any (·.1.isNone)) = false := by rfl) :
    PE X (.Call (.Name x p) [] kws pos) (tCallK sp gV E tNil tk) := by
  refine ⟨fun pins s σ H Q I h => wpAny_Call_Name_kw (ld_glob I hg hm ?_ hdb)⟩
  refine PySem.W.callWith_KW0 (h₀ := X.base) I.ok.mod.kin hk hall (thn (hkw.run pos pins s σ H _ I h) ?_) hpl
  intro ws s2 ⟨zs, H2, I2, rz, q2⟩
  refine ⟨I2.kIn, ?_⟩
  rw [hks]
  exact runGK F hr hb hx I2 .nil rz q2
end

/-- how keywords are put into the parameters' order -/
def gK {α : Type} (na nk : Nat) (idx : List Nat) (us ws : List α) : List α := if us.length = na ∧ ws.length = nk then idx.filterMap (fun i => (us ++ ws)[i]?) else []
theorem vals_pick {xs : List V} {us : List Value} (r : Vals xs us) : ∀ idx : List Nat, Vals (idx.filterMap (fun i => xs[i]?)) (idx.filterMap (fun i => us[i]?))
  | [] => .nil
  | i :: idx => by
    have ih := vals_pick r idx
    cases g : xs[i]? with
    | none =>
      rw [List.filterMap_cons_none (by exact g), List.filterMap_cons_none (by exact r.none_of g)]
      exact ih
    | some x =>
      obtain ⟨u, hu, rx⟩ := r.get g
      rw [List.filterMap_cons_some (by exact g), List.filterMap_cons_some (by exact hu)]
      exact .cons rx ih
theorem gK_rel {na nk : Nat} {idx : List Nat} {vs : List V} {us : List Value} {zs : List V} {ws : List Value} (r : Vals vs us) (rz : Vals zs ws) : Vals (gK na nk idx vs zs) (gK na nk idx us ws) := by
  unfold gK
  rw [r.length, rz.length]
  split
  · exact vals_pick (r.append rz) idx
  · exact .nil
theorem gK_len {α : Type} {na nk n : Nat} {idx : List Nat} {us ws : List α} (h : (gK na nk idx us ws).length = n) (hn : n ≠ 0) : us.length = na ∧ ws.length = nk := by
  unfold gK at h
  split at h
  · assumption
  · exact absurd h.symm hn

/-! ### isinstance of a built-in class -/
theorem isi_ty {K : PySem.W.Frag} {H : Hp} {x : V} {t T : String} {b : Bool} {Q : VK} (ty : TyX K H x (.type t)) (k : kitB t T = some b) (q : Q (.bl b) H) : rIsi K [x, .ty T] H Q :=
  ⟨x, .ty T, .type t, .type T, b, rfl, .ty T, ty, kit_ty k, q⟩
theorem kb_int_int : kitB "int" "int" = some true := by decide +kernel
theorem kb_int_bool : kitB "int" "bool" = some false := by decide +kernel
theorem kb_list_list : kitB "list" "list" = some true := by decide +kernel
theorem kb_tuple_tuple : kitB "tuple" "tuple" = some true := by decide +kernel
theorem bt_int : bootBuiltins "int" = some (.type "int") := by decide +kernel
theorem bt_bool : bootBuiltins "bool" = some (.type "bool") := by decide +kernel
theorem bt_list : bootBuiltins "list" = some (.type "list") := by decide +kernel
theorem bt_tuple : bootBuiltins "tuple" = some (.type "tuple") := by decide +kernel
/-- the type of a list that is read -/
theorem ty_seql {K : PySem.W.Frag} {H : Hp} {a : Addr} {xs : List V} (h : SqL K H a xs) : TyX K H (.ref a) (.type "list") := by
  rcases h with (h | ⟨o, h⟩) | ⟨o, its, n, hk, hc, _⟩
  · exact .base (.lst h)
  · exact .base (.frz h)
  · exact .kList hk hc
theorem ty_seqt {K : PySem.W.Frag} {H : Hp} {a : Addr} {xs : List V} (h : SqT K H a xs) : TyX K H (.ref a) (.type "tuple") := by
  rcases h with (h | ⟨o, h⟩) | ⟨o, its, n, hk, hc, _⟩
  · exact .base (.tup h)
  · exact .fTuple h
  · exact .kTuple hk hc

/-! ### more of what evaluates to what -/
section
variable {K : PySem.W.Frag} {σ : L2.St} {H H' : Hp} {ta tb te : TE} {t u : TT} {x y z v : V}
theorem ev_isi {T t : String} {b : Bool} (h : Ev ta σ H x) (ty : ∀ H1, Ex H H1 → TyX K H1 x (.type t)) (k : kitB t T = some b) : Ev (tCB (rIsi K) (tCons ta (tCons (tC (.ty T)) tNil))) σ H (.bl b) := fun H1 e Q q =>
  h H1 e _ fun H2 e2 => isi_ty (ty H2 (e.trans e2)) k (q H2 e2)
theorem ev_sum {p : Addr} {ns : List Int} (ha : Ev ta σ H (.ref p)) (h : SqL K H p (vi ns)) : Ev (tCB (rSum K) (tCons ta tNil)) σ H (.int ns.sum) := fun H1 e Q q =>
  ha H1 e _ fun H2 e2 => ⟨p, ns, rfl, ex_l (e.trans e2) h, q H2 e2⟩
theorem ev_sumN {ns : List Int} (ha : EvL ta σ H (vi ns)) : Ev (tCB (rSum K) (tCons ta tNil)) σ H (.int ns.sum) := fun H1 e Q q =>
  ha H1 e _ fun p H2 hp e2 h2 => ⟨p, ns, rfl, sq_of h2, q H2 e2⟩
theorem ev_int1 {i : Int} (ha : Ev ta σ H (.int i)) : Ev (tCB (fun xs H Q => (∃ i, xs = [.int i] ∧ Q (.int i) H) ∨ ∃ k, xs = [.bl k] ∧ Q (.int (if k then 1 else 0)) H) (tCons ta tNil)) σ H (.int i) := fun H1 e Q q =>
  ha H1 e _ fun H2 e2 => .inl ⟨i, rfl, q H2 e2⟩
theorem ev_abs {i : Int} (ha : Ev ta σ H (.int i)) : Ev (tCB (fun xs H Q => ∃ i, xs = [.int i] ∧ Q (.int (if i < 0 then -i else i)) H) (tCons ta tNil)) σ H (.int (if i < 0 then -i else i)) := fun H1 e Q q =>
  ha H1 e _ fun H2 e2 => ⟨i, rfl, q H2 e2⟩
theorem ev_min2 {i j : Int} (ha : Ev ta σ H (.int i)) (hb : Ev tb σ H (.int j)) : Ev (tCB (fun xs H Q => ∃ i j, xs = [.int i, .int j] ∧ Q (.int (if j < i then j else i)) H) (tCons ta (tCons tb tNil))) σ H (.int (if j < i then j else i)) := fun H1 e Q q =>
  ha H1 e _ fun H2 e2 => hb H2 (e.trans e2) _ fun H3 e3 => ⟨i, j, rfl, q H3 (e2.trans e3)⟩
/-- tuple(xs), xs a new list -/
def rTupOf (K : PySem.W.Frag) : List V → Hp → VK → Prop := fun xs H Q => ∃ p ys, xs = [.ref p] ∧ ((SqL K H p ys ∧ ∀ l, H l = none → Q (.ref l) (upd H l (.tup ys))) ∨ (SqT K H p ys ∧ Q (.ref p) H))
theorem eu_tupOf {p : Addr} {xs : List V} (ha : Ev ta σ H (.ref p)) (h : SqL K H p xs) : EvU (tCB (rTupOf K) (tCons ta tNil)) σ H xs := fun H1 e Q q =>
  ha H1 e _ fun H2 e2 => ⟨p, xs, rfl, .inl ⟨ex_l (e.trans e2) h, fun l hl => q l _ (fresh_back e2 hl) (e2.trans (Ex.new hl)) upd_same⟩⟩
theorem eu_tupOfN {xs : List V} (ha : EvL ta σ H xs) : EvU (tCB (rTupOf K) (tCons ta tNil)) σ H xs := fun H1 e Q q =>
  ha H1 e _ fun p H2 hp e2 h2 => ⟨p, xs, rfl, .inl ⟨sq_of h2, fun l hl => q l _ (fresh_back e2 hl) (e2.trans (Ex.new hl)) upd_same⟩⟩
/-- a + b of lists -/
theorem el_cat {p q : Addr} {xs ys : List V} (ha : Ev ta σ H (.ref p)) (hb : EvL tb σ H ys) (h : H p = some (.lst xs)) (hz : xs.length + ys.length ≤ 100000) : EvL (tOp rCat ta tb) σ H (xs ++ ys) := fun H1 e Q k =>
  ha H1 e _ fun H2 e2 => hb H2 (e.trans e2) _ fun r H3 hr e3 h3 => ⟨p, r, xs, ys, rfl, rfl, e3 _ _ (e2 _ _ (e _ _ h)), h3, sz_of hz, fun l hl => k l _ (fresh_back (e2.trans e3) hl) ((e2.trans e3).trans (Ex.new hl)) upd_same⟩
theorem el_catNN {xs ys : List V} (ha : EvL ta σ H xs) (hb : EvL tb σ H ys) (hz : xs.length + ys.length ≤ 100000) : EvL (tOp rCat ta tb) σ H (xs ++ ys) := fun H1 e Q k =>
  ha H1 e _ fun p H2 hp e2 h2 => hb H2 (e.trans e2) _ fun r H3 hr e3 h3 => ⟨p, r, xs, ys, rfl, rfl, e3 _ _ h2, h3, sz_of hz, fun l hl => k l _ (fresh_back (e2.trans e3) hl) ((e2.trans e3).trans (Ex.new hl)) upd_same⟩
theorem el_catPP {p q : Addr} {xs ys : List V} (ha : Ev ta σ H (.ref p)) (hb : Ev tb σ H (.ref q)) (h : H p = some (.lst xs)) (h' : H q = some (.lst ys)) (hz : xs.length + ys.length ≤ 100000) : EvL (tOp rCat ta tb) σ H (xs ++ ys) := fun H1 e Q k =>
  ha H1 e _ fun H2 e2 => hb H2 (e.trans e2) _ fun H3 e3 => ⟨p, q, xs, ys, rfl, rfl, e3 _ _ (e2 _ _ (e _ _ h)), e3 _ _ (e2 _ _ (e _ _ h')), sz_of hz, fun l hl => k l _ (fresh_back (e2.trans e3) hl) ((e2.trans e3).trans (Ex.new hl)) upd_same⟩

/-! ### pairs: enumerate, zip -/
abbrev g2 (K : PySem.W.Frag) (i j : Nat) : TG := gTup K 2 (gCons (gName i) (gCons (gName j) gNil))
theorem g2_go {i j : Nat} {T : Addr} {x y : V} {Q : L2.St → Hp → Prop} (h : H T = some (.tup [x, y])) (q : Q ((σ.set i (some x)).set j (some y)) H) : g2 K i j (.ref T) σ H Q :=
  ⟨T, [x, y], rfl, .inl (.inl h), rfl, x, [y], rfl, y, [], rfl, rfl, q⟩
variable {D : Ends} {tu tz : TS}
theorem for_Itn {a : Addr} {xs : List V} {c : Int} {i j : Nat} (Pv : Nat → L2.St → Hp → Prop) (h0 : Pv 0 σ H) (hl : ∀ n σ' H', n ≤ xs.length → Pv n σ' H' → SqL K H' a xs)
    (hs : ∀ n x σ' H', xs[n]? = some x → Pv n σ' H' → ∀ H1, Ex H' H1 → tu { D with nx := Pv (n + 1), ct := Pv (n + 1), bk := D.nx } ((σ'.set i (some (.int (c + (n : Nat))))).set j (some x)) H1) (hd : ∀ σ' H', Pv xs.length σ' H' → D.nx σ' H') :
    ∃ W : Nat → Nat → L2.St → Hp → Prop, (∃ m, W 0 m σ H) ∧ ∀ n m σ H, W n m σ H → ((Itn K a c).stop n H ∧ D.nx σ H) ∨ ((Itn K a c).go n H ∧ ∃ N : L2.St → Hp → Prop, (∀ σ' H', N σ' H' → ∃ m', m' < m ∧ W (n + 1) m' σ' H') ∧
      ∀ x H', (Itn K a c).yld n H x H' → g2 K i j x σ H' fun σ2 H2 => tu { D with nx := N, ct := N, bk := D.nx } σ2 H2) := by
  refine ⟨fun n m σ H => m = xs.length - n ∧ n ≤ xs.length ∧ Pv n σ H, ⟨xs.length, by simp, Nat.zero_le _, h0⟩, ?_⟩
  rintro n m σ H ⟨rfl, hi, p⟩
  have q := hl n σ H hi p
  by_cases hlt : n < xs.length
  · refine .inr ⟨⟨xs, xs[n], q, by simp [hlt]⟩, Pv (n + 1), fun σ' H' p' => ⟨xs.length - (n + 1), by omega, rfl, hlt, p'⟩, ?_⟩
    rintro v H' ⟨T, x, rfl, nT, rfl, hx⟩
    exact g2_go upd_same (hs n x σ H (hx xs q) p _ (Ex.new nT))
  · have e : n = xs.length := by omega
    subst e
    exact .inl ⟨⟨xs, q, rfl⟩, hd σ H p⟩
theorem for_Ite {a : Addr} {xs : List V} {i j : Nat} (Pv : Nat → L2.St → Hp → Prop) (h0 : Pv 0 σ H) (hl : ∀ n σ' H', n ≤ xs.length → Pv n σ' H' → SqL K H' a xs)
    (hs : ∀ n x σ' H', xs[n]? = some x → Pv n σ' H' → ∀ H1, Ex H' H1 → tu { D with nx := Pv (n + 1), ct := Pv (n + 1), bk := D.nx } ((σ'.set i (some (.int (n : Nat)))).set j (some x)) H1) (hd : ∀ σ' H', Pv xs.length σ' H' → D.nx σ' H') :
    ∃ W : Nat → Nat → L2.St → Hp → Prop, (∃ m, W 0 m σ H) ∧ ∀ n m σ H, W n m σ H → ((Ite K a).stop n H ∧ D.nx σ H) ∨ ((Ite K a).go n H ∧ ∃ N : L2.St → Hp → Prop, (∀ σ' H', N σ' H' → ∃ m', m' < m ∧ W (n + 1) m' σ' H') ∧
      ∀ x H', (Ite K a).yld n H x H' → g2 K i j x σ H' fun σ2 H2 => tu { D with nx := N, ct := N, bk := D.nx } σ2 H2) := by
  refine ⟨fun n m σ H => m = xs.length - n ∧ n ≤ xs.length ∧ Pv n σ H, ⟨xs.length, by simp, Nat.zero_le _, h0⟩, ?_⟩
  rintro n m σ H ⟨rfl, hi, p⟩
  have q := hl n σ H hi p
  by_cases hlt : n < xs.length
  · refine .inr ⟨⟨xs, xs[n], q, by simp [hlt]⟩, Pv (n + 1), fun σ' H' p' => ⟨xs.length - (n + 1), by omega, rfl, hlt, p'⟩, ?_⟩
    rintro v H' ⟨T, x, rfl, nT, rfl, hx⟩
    exact g2_go upd_same (hs n x σ H (hx xs q) p _ (Ex.new nT))
  · have e : n = xs.length := by omega
    subst e
    exact .inl ⟨⟨xs, q, Nat.le_refl _⟩, hd σ H p⟩
theorem s_forEn {a : Addr} {xs : List V} {tl : TE} {i j : Nat} (h : Ev tl σ H (.ref a)) (hx : SqL K H a xs) (Pv : Nat → L2.St → Hp → Prop) (h0 : ∀ H1, Ex H H1 → Pv 0 σ H1) (hl : ∀ n σ' H', n ≤ xs.length → Pv n σ' H' → SqL K H' a xs)
    (hs : ∀ n x σ' H', xs[n]? = some x → Pv n σ' H' → ∀ H1, Ex H' H1 → tu { D with nx := Pv (n + 1), ct := Pv (n + 1), bk := D.nx } ((σ'.set i (some (.int (n : Nat)))).set j (some x)) H1) (hd : ∀ σ' H', Pv xs.length σ' H' → D.nx σ' H') :
    tFor (iEnum K (tCons tl tNil)) (g2 K i j) tu D σ H :=
  h H (Ex.refl H) _ fun H1 e => ⟨a, xs, rfl, ex_l e hx, for_Ite Pv (h0 H1 e) hl hs hd⟩
theorem s_forEnC {a : Addr} {xs : List V} {tl : TE} {c : Int} {i j : Nat} (h : Ev tl σ H (.ref a)) (hx : SqL K H a xs) (Pv : Nat → L2.St → Hp → Prop) (h0 : ∀ H1, Ex H H1 → Pv 0 σ H1) (hl : ∀ n σ' H', n ≤ xs.length → Pv n σ' H' → SqL K H' a xs)
    (hs : ∀ n x σ' H', xs[n]? = some x → Pv n σ' H' → ∀ H1, Ex H' H1 → tu { D with nx := Pv (n + 1), ct := Pv (n + 1), bk := D.nx } ((σ'.set i (some (.int (c + (n : Nat))))).set j (some x)) H1) (hd : ∀ σ' H', Pv xs.length σ' H' → D.nx σ' H') :
    tFor (iEnumC K (tCons tl tNil) c) (g2 K i j) tu D σ H :=
  h H (Ex.refl H) _ fun H1 e => ⟨a, xs, rfl, ex_l e hx, for_Itn Pv (h0 H1 e) hl hs hd⟩
theorem s_forNEnC {xs : List V} {tl : TE} {c : Int} {i j : Nat} (h : EvL tl σ H xs) (Pv : Addr → Nat → L2.St → Hp → Prop) (h0 : ∀ p H1, H p = none → Ex H H1 → H1 p = some (.lst xs) → Pv p 0 σ H1) (hl : ∀ p n σ' H', n ≤ xs.length → Pv p n σ' H' → SqL K H' p xs)
    (hs : ∀ p n x σ' H', xs[n]? = some x → Pv p n σ' H' → ∀ H1, Ex H' H1 → tu { D with nx := Pv p (n + 1), ct := Pv p (n + 1), bk := D.nx } ((σ'.set i (some (.int (c + (n : Nat))))).set j (some x)) H1) (hd : ∀ p σ' H', Pv p xs.length σ' H' → D.nx σ' H') :
    tFor (iEnumC K (tCons tl tNil) c) (g2 K i j) tu D σ H :=
  h H (Ex.refl H) _ fun p H1 hp e h1 => ⟨p, xs, rfl, sq_of h1, for_Itn (Pv p) (h0 p H1 hp e h1) (hl p) (hs p) (hd p)⟩

/-- [e for i, x in enumerate(xs, start=c) if ..] of pure parts -/
theorem lc_Itn {a : Addr} {xs : List V} {c : Int} {i j : Nat} {vs : List Nat} {H1 : Hp} {Dl : Addr} {Qd : Hp → Prop} (f : Nat → Bool) (v : Nat → V) (hD : H1 Dl = none) (hx : SqL K H1 a xs) (hz : xs.length ≤ 40000)
    (hw : ∀ x y, wipe (((wipe σ vs).set i (some x)).set j (some y)) vs = wipe σ vs)
    (ht : ∀ (n : Nat) x H2, Ex H1 H2 → xs[n]? = some x → EvT t (((wipe σ vs).set i (some (.int (c + (n : Nat))))).set j (some x)) H2 (f n))
    (he : ∀ (n : Nat) x H2, Ex H1 H2 → xs[n]? = some x → f n = true → Ev te (((wipe σ vs).set i (some (.int (c + (n : Nat))))).set j (some x)) H2 (v n)) (hd : ∀ H', Cw H1 f v Dl xs.length H' → Qd H') :
    ∃ W : Nat → Nat → Hp → Prop, (∃ m, W 0 m (upd H1 Dl (.lst []))) ∧ ∀ n m H, W n m H →
      ((Itn K a c).stop n H ∧ Qd H) ∨ ((Itn K a c).go n H ∧ ∃ Nx : Hp → Prop, (∀ H', Nx H' → ∃ m', m' < m ∧ W (n + 1) m' H') ∧ ∀ x H', (Itn K a c).yld n H x H' → g2 K i j x (wipe σ vs) H' fun σ2 H2 => wipe σ2 vs = wipe σ vs ∧ t σ2 H2 fun b H3 =>
        if b = true then te σ2 H3 fun y H4 => ∃ acc, H4 Dl = some (.lst acc) ∧ acc.length < sizeLine ∧ Nx (upd H4 Dl (.lst (acc ++ [y]))) else Nx H3) := by
  refine ⟨fun n m H => m = xs.length - n ∧ n ≤ xs.length ∧ Cw H1 f v Dl n H, ⟨xs.length, by simp, Nat.zero_le _, hD, Ex.new hD, upd_same⟩, ?_⟩
  rintro n m H ⟨rfl, hi, p⟩
  have q := ex_l p.2.1 hx
  by_cases hlt : n < xs.length
  · refine .inr ⟨⟨xs, xs[n], q, by simp [hlt]⟩, Cw H1 f v Dl (n + 1), fun H' p' => ⟨xs.length - (n + 1), by omega, rfl, hlt, p'⟩, ?_⟩
    rintro w H' ⟨T, x, rfl, nT, rfl, hg⟩
    have e1 := Ex.new (o := .tup [.int (c + (n : Nat)), x]) nT
    have gx := hg xs q
    refine g2_go upd_same ⟨hw _ _, cw_turn ⟨p.1, p.2.1.trans e1, e1 _ _ p.2.2⟩ (by omega) (ht n x H1 (Ex.refl H1) gx) (he n x H1 (Ex.refl H1) gx)⟩
  · have e : n = xs.length := by omega
    subst e
    exact .inl ⟨⟨xs, q, rfl⟩, hd H p⟩
theorem el_lcEnC {a : Addr} {xs : List V} {tl : TE} {c : Int} {i j : Nat} {vs : List Nat} (f : Nat → Bool) (v : Nat → V) (h : Ev tl σ H (.ref a)) (hx : SqL K H a xs) (hz : xs.length ≤ 40000)
    (hw : ∀ x y, wipe (((wipe σ vs).set i (some x)).set j (some y)) vs = wipe σ vs)
    (ht : ∀ (n : Nat) x H1, Ex H H1 → xs[n]? = some x → EvT t (((wipe σ vs).set i (some (.int (c + (n : Nat))))).set j (some x)) H1 (f n))
    (he : ∀ (n : Nat) x H1, Ex H H1 → xs[n]? = some x → f n = true → Ev te (((wipe σ vs).set i (some (.int (c + (n : Nat))))).set j (some x)) H1 (v n)) :
    EvL (tLc (iEnumC K (tCons tl tNil) c) (g2 K i j) t te vs) σ H (given xs.length f v) := fun H0 e Q q => h H0 e _ fun H1 e1 => ⟨a, xs, rfl, ex_l (e.trans e1) hx, fun Dl hD =>
  lc_Itn f v hD (ex_l (e.trans e1) hx) hz hw (fun n x H2 e2 gx => ht n x H2 ((e.trans e1).trans e2) gx) (fun n x H2 e2 gx hf => he n x H2 ((e.trans e1).trans e2) gx hf) fun H' p => q Dl H' (fresh_back e1 p.1) (e1.trans p.2.1) p.2.2⟩
theorem el_lcNEnC {xs : List V} {tl : TE} {c : Int} {i j : Nat} {vs : List Nat} (f : Nat → Bool) (v : Nat → V) (h : EvL tl σ H xs) (hz : xs.length ≤ 40000)
    (hw : ∀ x y, wipe (((wipe σ vs).set i (some x)).set j (some y)) vs = wipe σ vs)
    (ht : ∀ (n : Nat) x H1, Ex H H1 → xs[n]? = some x → EvT t (((wipe σ vs).set i (some (.int (c + (n : Nat))))).set j (some x)) H1 (f n))
    (he : ∀ (n : Nat) x H1, Ex H H1 → xs[n]? = some x → f n = true → Ev te (((wipe σ vs).set i (some (.int (c + (n : Nat))))).set j (some x)) H1 (v n)) :
    EvL (tLc (iEnumC K (tCons tl tNil) c) (g2 K i j) t te vs) σ H (given xs.length f v) := fun H0 e Q q => h H0 e _ fun a H1 ha e1 h1 => ⟨a, xs, rfl, sq_of h1, fun Dl hD =>
  lc_Itn f v hD (sq_of h1) hz hw (fun n x H2 e2 gx => ht n x H2 ((e.trans e1).trans e2) gx) (fun n x H2 e2 gx hf => he n x H2 ((e.trans e1).trans e2) gx hf) fun H' p => q Dl H' (fresh_back e1 p.1) (e1.trans p.2.1) p.2.2⟩
/-- [e for x, y in zip(xs, ys)] of pure parts -/
theorem el_lcZ {a b : Addr} {xs ys : List V} {tl tr : TE} {i j : Nat} {vs : List Nat} (v : Nat → V) (h : Ev tl σ H (.ref a)) (h' : Ev tr σ H (.ref b)) (hx : SqL K H a xs) (hy : SqL K H b ys) (hz : xs.length ≤ 40000)
    (hw : ∀ x y, wipe (((wipe σ vs).set i (some x)).set j (some y)) vs = wipe σ vs)
    (he : ∀ (n : Nat) x y H1, Ex H H1 → xs[n]? = some x → ys[n]? = some y → Ev te (((wipe σ vs).set i (some x)).set j (some y)) H1 (v n)) :
    EvL (tLc (iZip K (tCons tl (tCons tr tNil))) (g2 K i j) tYes te vs) σ H (given (min xs.length ys.length) (fun _ => true) v) := fun H0 e Q q => h H0 e _ fun H1 e1 => h' H1 (e.trans e1) _ fun H2 e2 => by
  have ee := (e.trans e1).trans e2
  refine ⟨a, b, xs, ys, rfl, ex_l ee hx, ex_l ee hy, fun Dl hD => ?_⟩
  refine ⟨fun n m H => m = min xs.length ys.length - n ∧ n ≤ min xs.length ys.length ∧ Cw H2 (fun _ => true) v Dl n H, ⟨min xs.length ys.length, by simp, Nat.zero_le _, hD, Ex.new hD, upd_same⟩, ?_⟩
  rintro n m H ⟨rfl, hi, p⟩
  have qx := ex_l (ee.trans p.2.1) hx
  have qy := ex_l (ee.trans p.2.1) hy
  by_cases hlt : n < min xs.length ys.length
  · have h1 : n < xs.length := by omega
    have h2 : n < ys.length := by omega
    refine .inr ⟨⟨xs, ys, xs[n], ys[n], qx, qy, by simp [h1], by simp [h2]⟩, Cw H2 (fun _ => true) v Dl (n + 1), fun H' p' => ⟨min xs.length ys.length - (n + 1), by omega, rfl, hlt, p'⟩, ?_⟩
    rintro w H' ⟨T, x, y, rfl, nT, rfl, gx, gy⟩
    have e3 := Ex.new (o := .tup [x, y]) nT
    refine g2_go upd_same ⟨hw _ _, cw_turn ⟨p.1, p.2.1.trans e3, e3 _ _ p.2.2⟩ (by omega) (fun H3 _ Q q => q H3 (Ex.refl H3)) fun _ => he n x y H2 ee (gx xs qx) (gy ys qy)⟩
  · have e' : n = min xs.length ys.length := by omega
    subst e'
    exact .inl ⟨⟨xs, ys, qx, qy, by omega⟩, q Dl H (fresh_back (e1.trans e2) p.1) ((e1.trans e2).trans p.2.1) p.2.2⟩
end
end Bk
namespace Bk
open PySem PySem.Spec PyProof.Rows L2 Evl

section
variable {K : PySem.W.Frag} {σ : L2.St} {H H' : Hp} {ta tb te tc : TE} {t u : TT} {x y z v : V}
theorem ev_chain {r r' : R2} {w : V} {a b : Bool} (ha : Ev ta σ H x) (hb : Ev tb σ H y) (h1 : RV r x y H (.bl a)) (hc : a = true → Ev tc σ H w) (h2 : a = true → RV r' y w H (.bl b)) : Ev (tChain r r' ta tb tc) σ H (.bl (a && b)) := fun H1 e Q q =>
  ha H1 e _ fun H2 e2 => hb H2 (e.trans e2) _ fun H3 e3 => h1 H3 ((e.trans e2).trans e3) _ fun H4 e4 => ⟨a, rfl, by
    have ee := ((e.trans e2).trans e3).trans e4
    cases a with
    | false =>
      refine iteF ?_
      exact q H4 ((e2.trans e3).trans e4)
    | true =>
      refine iteT ?_
      exact hc rfl H4 ee _ fun H5 e5 => h2 rfl H5 (ee.trans e5) _ fun H6 e6 => q H6 ((((e2.trans e3).trans e4).trans e5).trans e6)⟩
/-- [0] * n and its like -/
theorem el_rep {xs : List V} {n : Int} (ha : EvL ta σ H xs) (hb : ∀ H1, Ex H H1 → Ev tb σ H1 (.int n)) (h0 : 0 ≤ n) (hz : xs.length * n.toNat ≤ 100000) (hn : n ≤ 100000) : EvL (tOp rRep ta tb) σ H (List.replicate n.toNat xs).flatten := fun H1 e Q q =>
  ha H1 e _ fun p H2 hp e2 h2 => hb H2 (e.trans e2) H2 (Ex.refl H2) _ fun H3 e3 => ⟨p, n, xs, rfl, rfl, e3 _ _ h2, by omega, by omega, sz_of hz, fun l hl => q l _ (fresh_back (e2.trans e3) hl) ((e2.trans e3).trans (Ex.new hl)) upd_same⟩
theorem el_ofL {p : Addr} {xs : List V} (ha : Ev ta σ H (.ref p)) (h : SqL K H p xs) : EvL (tCB (fun xs H Q => ∃ p ys, xs = [.ref p] ∧ (SqL K H p ys ∨ SqT K H p ys) ∧ ∀ l, H l = none → Q (.ref l) (upd H l (.lst ys))) (tCons ta tNil)) σ H xs := el_list ha h
/-- list(range(a, b)) -/
theorem el_rg1 {n : Int} (ha : Ev ta σ H (.int n)) (h0 : 0 ≤ n) (hn : n ≤ 100000) : EvL (tLstRg (tRg1 ta)) σ H (rgV 0 n) := fun H1 e Q q =>
  ha H1 e _ fun H2 e2 => ⟨n, rfl, RgOk.of_le (by omega) (by omega) (by omega) h0, fun l hl => q l _ (fresh_back e2 hl) (e2.trans (Ex.new hl)) upd_same⟩
theorem ev_lenT {p : Addr} {xs : List V} (ha : Ev ta σ H (.ref p)) (h : SqT K H p xs) : Ev (tCB (rLenS K) (tCons ta tNil)) σ H (.int (xs.length : Int)) := fun H1 e Q q =>
  ha H1 e _ fun H2 e2 => ⟨p, xs, rfl, Or.inr (ex_t (e.trans e2) h), q H2 e2⟩
theorem ev_lenNT {xs : List V} (ha : EvU ta σ H xs) : Ev (tCB (rLenS K) (tCons ta tNil)) σ H (.int (xs.length : Int)) := fun H1 e Q q =>
  ha H1 e _ fun p H2 _ e2 h2 => ⟨p, xs, rfl, Or.inr (st_of h2), q H2 e2⟩
/-- repr of lists and tuples of ints -/
theorem ev_reprL {p : Addr} {ns : List Int} (ha : Ev ta σ H (.ref p)) (h : SqL K H p (vi ns)) (hw : wide 1900 ns) (hz : ns.length ≤ 4000) : Ev (tCB (rRepr K) (tCons ta tNil)) σ H (.str (PyData.list (di ns)).shown) := fun H1 e Q q =>
  ha H1 e _ fun H2 e2 => repr_l (ex_l (e.trans e2) h) hw hz (q H2 e2)
theorem ev_reprNL {ns : List Int} (ha : EvL ta σ H (vi ns)) (hw : wide 1900 ns) (hz : ns.length ≤ 4000) : Ev (tCB (rRepr K) (tCons ta tNil)) σ H (.str (PyData.list (di ns)).shown) := fun H1 e Q q =>
  ha H1 e _ fun p H2 _ e2 h2 => repr_l (sq_of h2) hw hz (q H2 e2)
theorem ev_reprT {p : Addr} {ns : List Int} (ha : Ev ta σ H (.ref p)) (h : SqT K H p (vi ns)) (hw : wide 1900 ns) (hz : ns.length ≤ 4000) : Ev (tCB (rRepr K) (tCons ta tNil)) σ H (.str (PyData.tuple (di ns)).shown) := fun H1 e Q q =>
  ha H1 e _ fun H2 e2 => repr_t (ex_t (e.trans e2) h) hw hz (q H2 e2)
theorem ev_reprNT {ns : List Int} (ha : EvU ta σ H (vi ns)) (hw : wide 1900 ns) (hz : ns.length ≤ 4000) : Ev (tCB (rRepr K) (tCons ta tNil)) σ H (.str (PyData.tuple (di ns)).shown) := fun H1 e Q q =>
  ha H1 e _ fun p H2 _ e2 h2 => repr_t (st_of h2) hw hz (q H2 e2)
/-- == and != of data -/
theorem rv_eqL {p q : Addr} {ns ms : List Int} (h : SqL K H p (vi ns)) (h' : SqL K H q (vi ms)) : RV (rEqD K) (.ref p) (.ref q) H (.bl (decide (ns = ms))) := fun H1 e Q k =>
  ⟨_, _, dp_lst (ex_l e h), dp_lst (ex_l e h'), shaped_l ns, shaped_l ms, by rw [eqv_l]; exact k H1 (Ex.refl H1)⟩
theorem rv_neL {p q : Addr} {ns ms : List Int} (h : SqL K H p (vi ns)) (h' : SqL K H q (vi ms)) : RV (rNeD K) (.ref p) (.ref q) H (.bl (!decide (ns = ms))) := fun H1 e Q k =>
  ⟨_, _, dp_lst (ex_l e h), dp_lst (ex_l e h'), shaped_l ns, shaped_l ms, by rw [eqv_l]; exact k H1 (Ex.refl H1)⟩
/-- a new tuple from a call -/
def SpU (sp : Sp) (vs : List V) (H : Hp) (xs : List V) : Prop := ∀ H1, Ex H H1 → ∀ Q : VK, (∀ p H2, H1 p = none → Ex H1 H2 → H2 p = some (.tup xs) → Q (.ref p) H2) → ∀ E : XK, sp vs H1 Q E
theorem eu_call {sp : Sp} {dvs vs xs : List V} {E : XK} {ta : TA} (h : EvA ta σ H vs) (hs : SpU sp (vs ++ dvs) H xs) : EvU (tCall sp dvs E ta) σ H xs := fun H1 e Q q =>
  h H1 e _ fun H2 e2 => hs H2 (e.trans e2) Q (fun p H3 hp e3 h3 => q p H3 (fresh_back e2 hp) (e2.trans e3) h3) E
theorem eu_callK {sp : Sp} {gV : List V → List V → List V} {vs zs xs : List V} {E : XK} {ta tk : TA} (h : EvA ta σ H vs) (h' : EvA tk σ H zs) (hs : SpU sp (gV vs zs) H xs) : EvU (tCallK sp gV E ta tk) σ H xs := fun H1 e Q q =>
  h H1 e _ fun H2 e2 => h' H2 (e.trans e2) _ fun H3 e3 => hs H3 ((e.trans e2).trans e3) Q (fun p H4 hp e4 h4 => q p H4 (fresh_back (e2.trans e3) hp) ((e2.trans e3).trans e4) h4) E
theorem el_callK {sp : Sp} {gV : List V → List V → List V} {vs zs xs : List V} {E : XK} {ta tk : TA} (h : EvA ta σ H vs) (h' : EvA tk σ H zs) (hs : SpL sp (gV vs zs) H xs) : EvL (tCallK sp gV E ta tk) σ H xs := fun H1 e Q q =>
  h H1 e _ fun H2 e2 => h' H2 (e.trans e2) _ fun H3 e3 => hs H3 ((e.trans e2).trans e3) Q (fun p H4 hp e4 h4 => q p H4 (fresh_back (e2.trans e3) hp) ((e2.trans e3).trans e4) h4) E
theorem ev_callK {sp : Sp} {gV : List V → List V → List V} {vs zs : List V} {E : XK} {ta tk : TA} (h : EvA ta σ H vs) (h' : EvA tk σ H zs) (hs : SpV sp (gV vs zs) H z) : Ev (tCallK sp gV E ta tk) σ H z := fun H1 e Q q =>
  h H1 e _ fun H2 e2 => h' H2 (e.trans e2) _ fun H3 e3 => hs H3 ((e.trans e2).trans e3) Q (fun H4 e4 => q H4 ((e2.trans e3).trans e4)) E
/-- an argument that is a new list, then a call -/
theorem eu_callL {sp : Sp} {xs ys : List V} {E : XK} (h : EvL ta σ H xs) (hs : ∀ p H1, Ex H H1 → H1 p = some (.lst xs) → SpU sp [.ref p] H1 ys) : EvU (tCall sp [] E (tCons ta tNil)) σ H ys := fun H1 e Q q =>
  h H1 e _ fun p H2 hp e2 h2 => hs p H2 (e.trans e2) h2 H2 (Ex.refl H2) Q (fun r H3 hr e3 h3 => q r H3 (fresh_back e2 hr) (e2.trans e3) h3) E
theorem el_callL {sp : Sp} {xs ys : List V} {E : XK} (h : EvL ta σ H xs) (hs : ∀ p H1, Ex H H1 → H1 p = some (.lst xs) → SpL sp [.ref p] H1 ys) : EvL (tCall sp [] E (tCons ta tNil)) σ H ys := fun H1 e Q q =>
  h H1 e _ fun p H2 hp e2 h2 => hs p H2 (e.trans e2) h2 H2 (Ex.refl H2) Q (fun r H3 hr e3 h3 => q r H3 (fresh_back e2 hr) (e2.trans e3) h3) E
theorem ev_callL {sp : Sp} {xs : List V} {E : XK} (h : EvL ta σ H xs) (hs : ∀ p H1, Ex H H1 → H1 p = some (.lst xs) → SpV sp [.ref p] H1 z) : Ev (tCall sp [] E (tCons ta tNil)) σ H z := fun H1 e Q q =>
  h H1 e _ fun p H2 hp e2 h2 => hs p H2 (e.trans e2) h2 H2 (Ex.refl H2) Q (fun H3 e3 => q H3 (e2.trans e3)) E
theorem ev_callU {sp : Sp} {xs : List V} {E : XK} (h : EvU ta σ H xs) (hs : ∀ p H1, Ex H H1 → H1 p = some (.tup xs) → SpV sp [.ref p] H1 z) : Ev (tCall sp [] E (tCons ta tNil)) σ H z := fun H1 e Q q =>
  h H1 e _ fun p H2 hp e2 h2 => hs p H2 (e.trans e2) h2 H2 (Ex.refl H2) Q (fun H3 e3 => q H3 (e2.trans e3)) E
def RetU (xs : List V) (H : Hp) (Q : VK) : Prop := ∀ p H2, H p = none → Ex H H2 → H2 p = some (.tup xs) → Q (.ref p) H2
end

/-! ### a well: three ints, of which draws are made -/
def Well (H : Hp) (a : Addr) (n : Nat) : Prop := ∃ x y c : Int, H a = some (.lst [.int x, .int y, .int c]) ∧ 0 ≤ y ∧ y < 2 ^ 200 ∧ 0 ≤ c ∧ c ≤ n
theorem Well.mono {H : Hp} {a : Addr} {n m : Nat} (h : Well H a n) (l : n ≤ m) : Well H a m := by
  obtain ⟨x, y, c, h1, h2, h3, h4, h5⟩ := h
  exact ⟨x, y, c, h1, h2, h3, h4, by omega⟩
theorem Well.ex {H H' : Hp} {a : Addr} {n : Nat} (h : Well H a n) (e : Ex H H') : Well H' a n := by
  obtain ⟨x, y, c, h1, h2⟩ := h
  exact ⟨x, y, c, e _ _ h1, h2⟩
theorem Well.ne {H : Hp} {a p : Addr} {n : Nat} (h : Well H a n) (hp : H p = none) : p ≠ a := by
  obtain ⟨x, y, c, h1, h2⟩ := h
  exact (ne_of_none h1 hp).symm
/-- the promise of a draw -/
def sp_dr (K : PySem.W.Frag) : Sp := fun vs H Q _ => ∃ (a : Addr) (n : Nat) (m : Int), vs = [.ref a, .int m] ∧ Well H a n ∧ n + 1 ≤ 2 ^ 50 ∧ 0 < m ∧ m < 2 ^ 8000 ∧
  ∀ (r : Int) (H2 : Hp), But a H H2 → Well H2 a (n + 1) → 0 ≤ r → r < m → Q (.int r) H2
/-- without the well -/
def hid (a : Addr) (H : Hp) : Hp := fun b => if b = a then none else H b
theorem hid_ne {a b : Addr} {H : Hp} (h : b ≠ a) : hid a H b = H b := if_neg h
theorem ex_hid {a : Addr} {H H1 : Hp} (x : But a H H1) : Ex (hid a H) H1 := fun b o h => by
  by_cases c : b = a
  · rw [c] at h
    unfold hid at h
    rw [if_pos rfl] at h
    cases h
  · rw [hid_ne c] at h
    exact x b o c h
theorem But.ex {a : Addr} {H H1 : Hp} (x : Ex H H1) : But a H H1 := fun b o _ h => x b o h
/-- what evaluates, drawing d times, to something of which P -/
def EvW (a : Addr) (d : Nat) (te : TE) (σ : L2.St) (H : Hp) (P : V → Prop) : Prop := ∀ (n : Nat) (H1 : Hp), But a H H1 → Well H1 a n → n + d ≤ 2 ^ 50 → ∀ Q : VK, (∀ v H2, But a H1 H2 → Well H2 a (n + d) → P v → Q v H2) → te σ H1 Q
def EvWL (a : Addr) (d : Nat) (te : TE) (σ : L2.St) (H : Hp) (P : List V → Prop) : Prop := ∀ (n : Nat) (H1 : Hp), But a H H1 → Well H1 a n → n + d ≤ 2 ^ 50 → ∀ Q : VK, (∀ p xs H2, H1 p = none → But a H1 H2 → Well H2 a (n + d) → H2 p = some (.lst xs) → P xs → Q (.ref p) H2) → te σ H1 Q
section
variable {K : PySem.W.Frag} {σ : L2.St} {H : Hp} {ta tb te ti tl : TE} {a : Addr} {d d1 d2 : Nat} {P P1 P2 : V → Prop} {v : V}
theorem EvW.mono (x : EvW a d te σ H P) (h : ∀ v, P v → P1 v) : EvW a d te σ H P1 := fun n H1 b w l Q q => x n H1 b w l Q fun v H2 b2 w2 p => q v H2 b2 w2 (h v p)
theorem ew_pure (h : Ev te σ (hid a H) v) (p : P v) : EvW a 0 te σ H P := fun n H1 b w l Q q => h H1 (ex_hid b) Q fun H2 e2 => q v H2 (But.ex e2) (w.ex e2) p
theorem ew_op {r : R2} (h1 : EvW a d1 ta σ H P1) (h2 : EvW a d2 tb σ H P2) (hr : ∀ x y, P1 x → P2 y → ∃ z, (∀ H, RV r x y H z) ∧ P z) : EvW a (d1 + d2) (tOp r ta tb) σ H P := fun n H1 b w l Q q =>
  h1 n H1 b w (by omega) _ fun x H2 b2 w2 p => h2 (n + d1) H2 (b.trans b2) w2 (by omega) _ fun y H3 b3 w3 p' => by
    obtain ⟨z, hz, pz⟩ := hr x y p p'
    refine hz H3 H3 (Ex.refl H3) Q fun H4 e4 => q z H4 ((b2.trans b3).trans (But.ex e4)) ?_ pz
    have w4 := w3.ex e4
    rw [Nat.add_assoc] at w4
    exact w4
/-- draw(well, e) -/
theorem ew_draw {i : Nat} {E : XK} (hσ : σ[i]? = some (some (.ref a))) (h : EvW a d te σ H P) (hP : ∀ v, P v → ∃ m : Int, v = .int m ∧ 0 < m ∧ m < 2 ^ 8000) :
    EvW a (d + 1) (tCall (sp_dr K) [] E (tCons (tVar i) (tCons te tNil))) σ H (fun v => ∃ m r : Int, P (.int m) ∧ v = .int r ∧ 0 ≤ r ∧ r < m) := fun n H1 b w l Q q => by
  refine ⟨.ref a, hσ, ?_⟩
  refine h n H1 b w (by omega) _ fun x H2 b2 w2 p => ?_
  obtain ⟨m, rfl, h0, h1⟩ := hP x p
  refine ⟨a, n + d, m, rfl, w2, by omega, h0, h1, fun r H3 b3 w3 r0 r1 => q _ H3 (b2.trans b3) ?_ ⟨m, r, p, rfl, r0, r1⟩⟩
  exact w3
/-- draw(well, m) -/
theorem ew_drawC {i : Nat} {E : XK} {m : Int} (hσ : σ[i]? = some (some (.ref a))) (h : Ev te σ (hid a H) (.int m)) (h0 : 0 < m) (h1 : m < 2 ^ 8000) :
    EvW a 1 (tCall (sp_dr K) [] E (tCons (tVar i) (tCons te tNil))) σ H (fun v => ∃ r : Int, v = .int r ∧ 0 ≤ r ∧ r < m) :=
  (ew_draw hσ (ew_pure (P := fun v => v = .int m) h rfl) fun v e => ⟨m, e, h0, h1⟩).mono fun v ⟨m', r, e, ev, r0, r1⟩ => by
    cases e
    exact ⟨r, ev, r0, r1⟩
/-- [..][e] with the list made ahead -/
theorem ew_ix {xs : List V} (hl : EvL tl σ (hid a H) xs) (hi : EvW a d ti σ H P) (hP : ∀ v, P v → ∃ (i : Int) (x : V), v = .int i ∧ atI xs i = some x ∧ P1 x) : EvW a d (tOp (rIxL K) tl ti) σ H P1 := fun n H1 b w l Q q =>
  hl H1 (ex_hid b) _ fun p H2 hp e2 h2 => hi n H2 (b.trans (But.ex e2)) (w.ex e2) l _ fun v H3 b3 w3 pv => by
    obtain ⟨i, x, rfl, hx, px⟩ := hP v pv
    exact ⟨p, xs, i, x, rfl, rfl, sq_of (b3 p _ (w.ne hp) h2), hx, q x H3 ((But.ex e2).trans b3) w3 px⟩
/-- an own value's wish: e + e' of ints -/
theorem ew_add {P1 P2 P : Int → Prop} (h1 : EvW a d1 ta σ H (fun v => ∃ r, v = .int r ∧ P1 r)) (h2 : EvW a d2 tb σ H (fun v => ∃ r, v = .int r ∧ P2 r)) (h : ∀ x y, P1 x → P2 y → P (x + y)) :
    EvW a (d1 + d2) (tOp (rI0 fun i j => .int (i + j)) ta tb) σ H (fun v => ∃ r, v = .int r ∧ P r) :=
  ew_op h1 h2 fun x y ⟨i, ei, p⟩ ⟨j, ej, p'⟩ => ⟨.int (i + j), fun H => by
    rw [ei, ej]
    exact rv_I0, i + j, rfl, h i j p p'⟩
theorem ew_c {i : Int} {P : Int → Prop} (p : P i) : EvW a 0 (tC (.int i)) σ H (fun v => ∃ r, v = .int r ∧ P r) := ew_pure ev_c ⟨i, rfl, p⟩
theorem ew_v {j : Nat} {i : Int} {P : Int → Prop} (h : σ[j]? = some (some (.int i))) (p : P i) : EvW a 0 (tVar j) σ H (fun v => ∃ r, v = .int r ∧ P r) := ew_pure (ev_var h) ⟨i, rfl, p⟩
/-! statements -/
variable {D : Ends} {tu tw tz : TS} {n : Nat}
theorem sw_asg {i : Nat} (h : EvW a d te σ H P) (w : Well H a n) (l : n + d ≤ 2 ^ 50) (k : ∀ v H1, But a H H1 → Well H1 a (n + d) → P v → D.nx (σ.set i (some v)) H1) : tAsg te (gName i) D σ H :=
  h n H (But.refl a H) w l _ fun v H2 b2 w2 p => k v H2 b2 w2 p
theorem qw_asg {i : Nat} (h : EvW a d te σ H P) (w : Well H a n) (l : n + d ≤ 2 ^ 50) (k : ∀ v H1, But a H H1 → Well H1 a (n + d) → P v → tz D (σ.set i (some v)) H1) : tSeq (tAsg te (gName i)) tz D σ H :=
  sw_asg (D := { D with nx := tz D }) h w l k
theorem qw_if {te : TE} (h : EvW a d te σ H (fun v => ∃ b, v = .bl b)) (w : Well H a n) (l : n + d ≤ 2 ^ 50) (k1 : ∀ H1, But a H H1 → Well H1 a (n + d) → tu { D with nx := tz D } σ H1)
    (k2 : ∀ H1, But a H H1 → Well H1 a (n + d) → tw { D with nx := tz D } σ H1) : tSeq (tIfS (tTest te) tu tw) tz D σ H :=
  h n H (But.refl a H) w l _ fun v H2 b2 w2 ⟨b, e⟩ => ⟨b, e, by
    cases b with
    | true => exact iteT (k1 H2 b2 w2)
    | false => exact iteF (k2 H2 b2 w2)⟩
/-- a test draw(..) == c -/
theorem ew_eq {P1 P2 : Int → Prop} (h1 : EvW a d1 ta σ H (fun v => ∃ r, v = .int r ∧ P1 r)) (h2 : EvW a d2 tb σ H (fun v => ∃ r, v = .int r ∧ P2 r)) : EvW a (d1 + d2) (tOp rEq ta tb) σ H (fun v => ∃ b, v = .bl b) :=
  ew_op h1 h2 fun x y ⟨i, ei, p⟩ ⟨j, ej, p'⟩ => ⟨.bl (decide (x = y)), fun H => by
    rw [ei, ej]
    exact rv_eq rfl, _, rfl⟩
end
end Bk
namespace Bk
open PySem PySem.Spec PyProof.Rows L2 Evl

section
variable {K : PySem.W.Frag} {H : Hp}
theorem rv_b {g : Int → Int → Bool} {i j : Int} {b : Bool} (h : g i j = b) : RV (rI0 fun i j => .bl (g i j)) (.int i) (.int j) H (.bl b) := h ▸ rv_I0 (g := fun i j => .bl (g i j))
theorem p10_pos (n : Nat) : 0 < (10 : Int) ^ n := Int.pow_pos (by decide)
theorem cpw {i j : Int} (h : i.natAbs < 2 ^ 250) (h0 : 0 ≤ j) (h1 : j ≤ 64) : CPowW i j := ⟨h0, h1, Nat.lt_of_lt_of_le h (Nat.pow_le_pow_right (by decide) (by decide))⟩
theorem cdw {j : Int} (i : Int) (h : 0 < j) (hb : j.natAbs < 2 ^ 250) : CDivW i j := wide_div h hb (by decide) (by decide)
theorem cdw8 {j : Int} (i : Int) (h : 0 < j) (hb : j < 2 ^ 8000) : CDivW i j := by
  refine wide_div (b := 8000) h ?_ (by decide) (by decide)
  have e : ((j.natAbs : Nat) : Int) = j := Int.natAbs_of_nonneg (by omega)
  have : ((j.natAbs : Nat) : Int) < ((2 ^ 8000 : Nat) : Int) := by
    rw [e, Int.natCast_pow]
    exact hb
  exact Int.ofNat_lt.mp this
theorem lt8000 {m : Int} (h : m < 2 ^ 250) : m < 2 ^ 8000 := by
  have a : ((2 : Nat) ^ 250) ≤ 2 ^ 8000 := Nat.pow_le_pow_right (by decide) (by decide)
  have b : (((2 : Nat) ^ 250 : Nat) : Int) ≤ (((2 : Nat) ^ 8000 : Nat) : Int) := Int.ofNat_le.mpr a
  rw [Int.natCast_pow, Int.natCast_pow] at b
  exact Int.lt_of_lt_of_le h b
/-- left factor small -/
theorem cml {i j : Int} (h : -(2 ^ 64) < i ∧ i < 2 ^ 64) : CMul i j := .inl h
theorem vi_inv {ns : List Int} {i : Nat} {x : V} (h : (vi ns)[i]? = some x) : ∃ m, x = .int m ∧ ns[i]? = some m ∧ ns.getD i 0 = m := by
  rw [List.getElem?_map] at h
  cases g : ns[i]? with
  | none =>
    rw [g] at h
    cases h
  | some m =>
    rw [g] at h
    cases h
    exact ⟨m, rfl, rfl, by rw [List.getD_eq_getElem?_getD, g]; rfl⟩
theorem given_all (n : Nat) (v : Nat → V) : given n (fun _ => true) v = (List.range n).map v := by
  unfold given
  rw [List.filter_eq_self.mpr (fun _ _ => rfl)]
theorem given_ints (n : Nat) (f : Nat → Int) : given n (fun _ => true) (fun i => V.int (f i)) = vi ((List.range n).map f) := by
  rw [given_all]
  unfold vi
  rw [List.map_map]
  rfl
variable {σ : L2.St} {ta tb te : TE} {t u : TT} {D : Ends} {tu tz : TS}
theorem el_is {xs ys : List V} (h : EvL te σ H xs) (e : xs = ys) : EvL te σ H ys := e ▸ h
theorem eu_is {xs ys : List V} (h : EvU te σ H xs) (e : xs = ys) : EvU te σ H ys := e ▸ h
theorem el_lcR2 {ta : TA} {j : Nat} {vs : List Nat} {lo n : Int} (f : Nat → Bool) (v : Nat → V) (h : EvA ta σ H [.int lo, .int n]) (hn : 0 ≤ lo ∧ lo ≤ 40000 ∧ -40000 ≤ n ∧ n ≤ 40000) (hw : ∀ x, wipe ((wipe σ vs).set j (some x)) vs = wipe σ vs)
    (ht : ∀ (i : Nat) H1, Ex H H1 → lo + (i : Int) < n → EvT t ((wipe σ vs).set j (some (.int (lo + (i : Int))))) H1 (f i)) (he : ∀ (i : Nat) H1, Ex H H1 → lo + (i : Int) < n → f i = true → Ev te ((wipe σ vs).set j (some (.int (lo + (i : Int))))) H1 (v i)) :
    EvL (tLc (iRng2 ta) (gName j) t te vs) σ H (given (n - lo).toNat f v) := fun H0 e Q q => h H0 e _ fun H1 e1 => ⟨lo, n, rfl, ⟨by omega, by omega, by omega, by omega⟩, fun Dl hD =>
  lc_range (lo := lo) (n := (n - lo).toNat) (Cw H1 f v Dl) ⟨hD, Ex.new hD, upd_same⟩ (fun i H' hi p =>
    ⟨hw _, cw_turn p (by omega) (ht i H1 (e.trans e1) (by omega)) (fun hf => he i H1 (e.trans e1) (by omega) hf)⟩) (fun H' p => q Dl H' (fresh_back e1 p.1) (e1.trans p.2.1) p.2.2)⟩
theorem et_yes : EvT tYes σ H true := fun H1 _ Q q => q H1 (Ex.refl H1)
/-- xs.extend(ys), ys new -/
theorem s_ext {l : Addr} {xs ys : List V} (hl : H l = some (.lst xs)) (ha : Ev ta σ H (.ref l)) (h : EvL te σ H ys) (hz : xs.length + ys.length ≤ 100000) (k : ∀ H1, Ex H H1 → D.nx σ (upd H1 l (.lst (xs ++ ys)))) :
    tDrop (tBM K "list" rExtend ta (tCons te tNil)) D σ H := ha H (Ex.refl H) _ fun H1 e1 =>
  ⟨Or.inl ⟨rfl, xs, sq_of (e1 l _ hl)⟩, h H1 e1 _ fun p H2 hp e2 h2 => ⟨l, p, xs, ys, rfl, rfl, e2 l _ (e1 l _ hl), h2, sz_of hz, k H2 (e1.trans e2)⟩⟩
theorem q_ext {l : Addr} {xs ys : List V} (hl : H l = some (.lst xs)) (ha : Ev ta σ H (.ref l)) (h : EvL te σ H ys) (hz : xs.length + ys.length ≤ 100000) (k : ∀ H1, Ex H H1 → tz D σ (upd H1 l (.lst (xs ++ ys)))) :
    tSeq (tDrop (tBM K "list" rExtend ta (tCons te tNil))) tz D σ H := s_ext (D := { D with nx := tz D }) hl ha h hz k
theorem q_forEnC {a : Addr} {xs : List V} {tl : TE} {c : Int} {i j : Nat} (h : Ev tl σ H (.ref a)) (hx : SqL K H a xs) (Pv : Nat → L2.St → Hp → Prop) (h0 : ∀ H1, Ex H H1 → Pv 0 σ H1) (hl : ∀ n σ' H', n ≤ xs.length → Pv n σ' H' → SqL K H' a xs)
    (hs : ∀ n x σ' H', xs[n]? = some x → Pv n σ' H' → ∀ H1, Ex H' H1 → tu { D with nx := Pv (n + 1), ct := Pv (n + 1), bk := tz D } ((σ'.set i (some (.int (c + (n : Nat))))).set j (some x)) H1) (hd : ∀ σ' H', Pv xs.length σ' H' → tz D σ' H') :
    tSeq (tFor (iEnumC K (tCons tl tNil) c) (g2 K i j) tu) tz D σ H := s_forEnC (D := { D with nx := tz D }) h hx Pv h0 hl hs hd

/-! ### more with a well -/
theorem ex_but {p : Addr} {H H1 H2 : Hp} (e : Ex H H1) (n : H p = none) (b : But p H1 H2) : Ex H H2 := fun c o h => b c o (ne_of_none h n) (e c o h)
theorem but_fresh {a p : Addr} {H H1 : Hp} {n : Nat} (b : But a H H1) (w : Well H a n) (w1 : Well H1 a n) (h : H1 p = none) : H p = none := by
  cases q : H p with
  | none => rfl
  | some o =>
    rw [b p o (w1.ne h) q] at h
    cases h
theorem but_free {a p : Addr} {H H1 : Hp} {m : Nat} (b : But a H H1) (w1 : Well H1 a m) (h : H1 p = none) : H p = none := b.free (w1.ne h) h
variable {a : Addr} {d d1 d2 n : Nat} {P P1 P2 : V → Prop} {ti tw : TE} {ts : TS}
theorem ew_min2 {P1 P2 P : Int → Prop} (h1 : EvW a d1 ta σ H (fun v => ∃ r, v = .int r ∧ P1 r)) (h2 : EvW a d2 tb σ H (fun v => ∃ r, v = .int r ∧ P2 r)) (h : ∀ x y, P1 x → P2 y → P (if y < x then y else x)) :
    EvW a (d1 + d2) (tCB (fun xs H Q => ∃ i j, xs = [.int i, .int j] ∧ Q (.int (if j < i then j else i)) H) (tCons ta (tCons tb tNil))) σ H (fun v => ∃ r, v = .int r ∧ P r) := fun n H1 b w l Q q =>
  h1 n H1 b w (by omega) _ fun x H2 b2 w2 ⟨i, ei, pi⟩ => h2 (n + d1) H2 (b.trans b2) w2 (by omega) _ fun y H3 b3 w3 ⟨j, ej, pj⟩ => by
    rw [Nat.add_assoc] at w3
    subst ei ej
    exact ⟨i, j, rfl, q _ H3 (b2.trans b3) w3 ⟨_, rfl, h i j pi pj⟩⟩
theorem sw_forR1 {P : Int → Prop} {j : Nat} (h : EvW a d te σ H (fun v => ∃ r, v = .int r ∧ P r)) (hP : ∀ r, P r → 0 ≤ r ∧ r ≤ 100000) (w : Well H a n) (l : n + d ≤ 2 ^ 50) (Pv : Nat → L2.St → Hp → Prop)
    (h0 : ∀ r H1, P r → But a H H1 → Well H1 a (n + d) → Pv 0 σ H1)
    (hs : ∀ r (i : Nat) σ' H', P r → (i : Int) < r → Pv i σ' H' → tu { D with nx := Pv (i + 1), ct := Pv (i + 1), bk := D.nx } (σ'.set j (some (.int (i : Int)))) H')
    (hd : ∀ r σ' H', P r → Pv r.toNat σ' H' → D.nx σ' H') : tFor (iRng1 (tCons te tNil)) (gName j) tu D σ H :=
  h n H (But.refl a H) w l _ fun v H2 b2 w2 ⟨r, er, pr⟩ => by
    subst er
    obtain ⟨r0, r1⟩ := hP r pr
    refine ⟨r, rfl, by omega, by omega, for_range (lo := 0) (n := r.toNat) Pv (h0 r H2 pr b2 w2) (fun i σ' H' hi p => ?_) (fun σ' H' p => hd r σ' H' pr p)⟩
    have e0 : (0 : Int) + (i : Int) = (i : Int) := Int.zero_add _
    show tu { D with nx := Pv (i + 1), ct := Pv (i + 1), bk := D.nx } (σ'.set j (some (.int ((0 : Int) + (i : Int))))) H'
    rw [e0]
    exact hs r i σ' H' pr (by omega) p
theorem qw_forR1 {P : Int → Prop} {j : Nat} (h : EvW a d te σ H (fun v => ∃ r, v = .int r ∧ P r)) (hP : ∀ r, P r → 0 ≤ r ∧ r ≤ 100000) (w : Well H a n) (l : n + d ≤ 2 ^ 50) (Pv : Nat → L2.St → Hp → Prop)
    (h0 : ∀ r H1, P r → But a H H1 → Well H1 a (n + d) → Pv 0 σ H1)
    (hs : ∀ r (i : Nat) σ' H', P r → (i : Int) < r → Pv i σ' H' → tu { D with nx := Pv (i + 1), ct := Pv (i + 1), bk := tz D } (σ'.set j (some (.int (i : Int)))) H')
    (hd : ∀ r σ' H', P r → Pv r.toNat σ' H' → tz D σ' H') : tSeq (tFor (iRng1 (tCons te tNil)) (gName j) tu) tz D σ H :=
  sw_forR1 (D := { D with nx := tz D }) h hP w l Pv h0 hs hd
/-- if draw.. or pure: .. -/
theorem qw_ifOr {b : Bool} (h : EvW a d te σ H (fun v => ∃ b, v = .bl b)) (hb : ∀ H1, But a H H1 → EvT u σ H1 b) (w : Well H a n) (l : n + d ≤ 2 ^ 50)
    (k1 : ∀ H1, But a H H1 → Well H1 a (n + d) → tu { D with nx := tz D } σ H1) (k2 : b = false → ∀ H1, But a H H1 → Well H1 a (n + d) → ts { D with nx := tz D } σ H1) : tSeq (tIfS (tOr (tTest te) u) tu ts) tz D σ H :=
  h n H (But.refl a H) w l _ fun v H2 b2 w2 ⟨c, e⟩ => ⟨c, e, by
    cases c with
    | true => exact iteT (iteT (k1 H2 b2 w2))
    | false =>
      refine iteF ?_
      refine hb H2 b2 H2 (Ex.refl H2) _ fun H3 e3 => ?_
      cases b with
      | true => exact iteT (k1 H3 (b2.trans (But.ex e3)) (w2.ex e3))
      | false => exact iteF (k2 rfl H3 (b2.trans (But.ex e3)) (w2.ex e3))⟩
theorem cut_take (xs : List V) (m : Nat) : cutV xs none (some (m : Int)) = xs.take m := by
  unfold cutV
  rw [HT.sIx_none, HT.sIx_nat, List.drop_zero, Nat.sub_zero]
  by_cases h : m ≤ xs.length
  · rw [Nat.min_eq_left h]
  · rw [Nat.min_eq_right (by omega), List.take_of_length_le (Nat.le_refl _), List.take_of_length_le (by omega)]
theorem flat_rep (n : Nat) (x : Int) : (List.replicate n [V.int x]).flatten = vi (List.replicate n x) := by
  unfold vi
  rw [List.map_replicate, List.flatten_replicate_singleton]
theorem el_slN {tl th : TO} {xs : List V} {lo hi : Option Int} (h : EvL te σ H xs) (h1 : EvO tl σ H lo) (h2 : EvO th σ H hi) : EvL (tSl (rSlL K) te tl th) σ H (cutV xs lo hi) := fun H1 e _ q =>
  h H1 e _ fun a H2 ha e2 hx => h1 H2 (e.trans e2) _ fun H3 e3 => h2 H3 ((e.trans e2).trans e3) _ fun H4 e4 =>
    ⟨a, xs, rfl, sq_of (e4 _ _ (e3 _ _ hx)), fun p hp => q p _ (fresh_back ((e2.trans e3).trans e4) hp) (((e2.trans e3).trans e4).trans (Ex.new hp)) upd_same⟩
theorem sw_asgL {P : List V → Prop} {i : Nat} (h : EvWL a d te σ H P) (w : Well H a n) (l : n + d ≤ 2 ^ 50) (k : ∀ p xs H1, H p = none → But a H H1 → Well H1 a (n + d) → H1 p = some (.lst xs) → P xs → D.nx (σ.set i (some (.ref p))) H1) : tAsg te (gName i) D σ H :=
  h n H (But.refl a H) w l _ fun p xs H2 hp b2 w2 h2 p => k _ xs H2 hp b2 w2 h2 p
theorem qw_asgL {P : List V → Prop} {i : Nat} (h : EvWL a d te σ H P) (w : Well H a n) (l : n + d ≤ 2 ^ 50) (k : ∀ p xs H1, H p = none → But a H H1 → Well H1 a (n + d) → H1 p = some (.lst xs) → P xs → tz D (σ.set i (some (.ref p))) H1) : tSeq (tAsg te (gName i)) tz D σ H :=
  sw_asgL (D := { D with nx := tz D }) h w l k
/-- x, y = a, b -/
theorem q_parLU {i j : Nat} {xs ys : List V} (h1 : EvL ta σ H xs) (h2 : ∀ p H1, H p = none → Ex H H1 → H1 p = some (.lst xs) → EvU tb σ H1 ys) (k : ∀ p q H1, H p = none → H q = none → p ≠ q → Ex H H1 → H1 p = some (.lst xs) → H1 q = some (.tup ys) → tz D ((σ.set i (some (.ref p))).set j (some (.ref q))) H1) :
    tSeq (tPar i j (tCons ta (tCons tb tNil))) tz D σ H :=
  h1 H (Ex.refl H) _ fun p H2 hp e2 g2 => h2 p H2 hp e2 g2 H2 (Ex.refl H2) _ fun q H3 hq e3 g3 => ⟨_, _, rfl, k p q H3 hp (fresh_back e2 hq) (ne_of_none g2 hq) (e2.trans e3) (e3 _ _ g2) g3⟩
theorem q_parLL {i j : Nat} {xs ys : List V} (h1 : EvL ta σ H xs) (h2 : ∀ p H1, H p = none → Ex H H1 → H1 p = some (.lst xs) → EvL tb σ H1 ys) (k : ∀ p q H1, H p = none → H q = none → p ≠ q → Ex H H1 → H1 p = some (.lst xs) → H1 q = some (.lst ys) → tz D ((σ.set i (some (.ref p))).set j (some (.ref q))) H1) :
    tSeq (tPar i j (tCons ta (tCons tb tNil))) tz D σ H :=
  h1 H (Ex.refl H) _ fun p H2 hp e2 g2 => h2 p H2 hp e2 g2 H2 (Ex.refl H2) _ fun q H3 hq e3 g3 => ⟨_, _, rfl, k p q H3 hp (fresh_back e2 hq) (ne_of_none g2 hq) (e2.trans e3) (e3 _ _ g2) g3⟩
theorem q_parVV {i j : Nat} {x y : V} (h1 : Ev ta σ H x) (h2 : Ev tb σ H y) (k : ∀ H1, Ex H H1 → tz D ((σ.set i (some x)).set j (some y)) H1) :
    tSeq (tPar i j (tCons ta (tCons tb tNil))) tz D σ H :=
  h1 H (Ex.refl H) _ fun H2 e2 => h2 H2 e2 _ fun H3 e3 => ⟨_, _, rfl, k H3 (e2.trans e3)⟩
theorem q_parLV {i j : Nat} {xs : List V} {y : V} (h1 : EvL ta σ H xs) (h2 : ∀ p H1, H p = none → Ex H H1 → H1 p = some (.lst xs) → Ev tb σ H1 y) (k : ∀ p H1, H p = none → Ex H H1 → H1 p = some (.lst xs) → tz D ((σ.set i (some (.ref p))).set j (some y)) H1) :
    tSeq (tPar i j (tCons ta (tCons tb tNil))) tz D σ H :=
  h1 H (Ex.refl H) _ fun p H2 hp e2 g2 => h2 p H2 hp e2 g2 H2 (Ex.refl H2) _ fun H3 e3 => ⟨_, _, rfl, k p H3 hp (e2.trans e3) (e3 _ _ g2)⟩
theorem q_parVL {i j : Nat} {xs : List V} {y : V} (h1 : Ev ta σ H y) (h2 : EvL tb σ H xs) (k : ∀ p H1, H p = none → Ex H H1 → H1 p = some (.lst xs) → tz D ((σ.set i (some y)).set j (some (.ref p))) H1) :
    tSeq (tPar i j (tCons ta (tCons tb tNil))) tz D σ H :=
  h1 H (Ex.refl H) _ fun H2 e2 => h2 H2 e2 _ fun p H3 hp e3 g3 => ⟨_, _, rfl, k p H3 (fresh_back e2 hp) (e2.trans e3) g3⟩
end
end Bk
/-! ### sorted of a tuple of ints -/
namespace Bk
open PySem PySem.Spec PyProof.Rows L2 Evl
section
variable {prog : Program} {w : World} {A : Around} {E : Value → Shared → Prop} {s : Shared}
theorem collect_tup {l : Addr} {vs : List Value} {Q : List Value → Shared → Prop} (ht : IsTup s.heap l vs.toArray) (hz : vs.length ≤ sizeLine)
    (h : Q vs { s with heap := (s.heap.push (seqObj "list" #[] 0)).update s.heap.objs.size (Obj.mapSeq (· ++ vs.toArray)) }) : wpAny (model prog w) A (collect (.ref l)) Q E s := by
  obtain ⟨o, ho, hc, n, hd⟩ := ht
  unfold collect
  refine wpAny_bind (wpAny_runValue (codeAny_builtin entry_proto_collect' ?_))
  show wpAny _ _ (newList [] >>= fun r => again (.builtin "list.__iadd__" ⟨[r, .ref l], []⟩)) _ _ s
  refine wpAny_bind (wpAny_newList (wpAny_pure ⟨Code.quiet_builtin _ (by decide +kernel), codeAny_builtin entry_list_iadd' ?_⟩))
  show wpAny _ _ (Builtin.List.listExtendWith (.ref s.heap.objs.size) (.ref l) (.ref s.heap.objs.size)) _ _ { s with heap := s.heap.push (seqObj "list" #[] 0) }
  unfold Builtin.List.listExtendWith
  have ho1 : (s.heap.push (seqObj "list" #[] 0)).get? l = some o := Heap.get?_push_of_some _ ho
  refine wpAny_bind (wpAny_typeOf (T := "tuple") ⟨o, ho1, hc⟩ ?_)
  have e1 : (Value.type "tuple" == Value.type "tuple") = true := by rfl
  rw [if_pos (by rw [e1]; simp)]
  refine wpAny_bind (listItems_at ho1 hd ?_)
  refine wpAny_bind (listItems_at (xs := #[]) (n := 0) (Heap.get?_push_size _ rfl) rfl ?_)
  rw [if_neg (by simp)]
  refine wpAny_bind (listUpdate_at (xs := #[]) (n := 0) (Heap.get?_push_size _ rfl) rfl ?_ (Nat.zero_le _) (by
    show (#[] ++ vs.toArray).size ≤ sizeLine + 1
    simp only [Array.size_append, List.size_toArray, List.length_nil]
    omega))
  refine wpAny_pure ?_
  refine wpAny_bind (wpAny_load (get?_update_seq (Heap.get?_push_size _ rfl) _) ?_)
  have e2 : ((#[] : Array Value) ++ vs.toArray).toList = vs := by simp
  show wpAny _ _ (pure ((#[] : Array Value) ++ vs.toArray).toList) Q E _
  rw [e2]
  exact wpAny_pure h
/-- behind the collecting: the new list is sorted -/
theorem sorted_tup {l : Addr} {vs : List Value} {ns : List Int} {Q : Value → Shared → Prop} (ht : IsTup s.heap l vs.toArray) (hz : vs.length ≤ sizeLine) (hI : IntsAre vs ns)
    (h : ∀ out : List Value, IntsAre out (out.map SrtO.iv) → (out.map SrtO.iv).Perm ns → (out.map SrtO.iv).Pairwise (· ≤ ·) → Q (.ref (s.heap.objs.size + 1)) { s with heap := sortedAll s.heap vs out.toArray }) :
    wpAny (model prog w) A (call (.builtin "sorted") [.ref l]) Q E s := by
  refine Calls.call_function_entry kind_sorted plain_sorted entry_sorted (args_sorted1 _) ?_
  unfold Builtin.«sorted»
  refine wpAny_bind (m := checkCount "sorted" 1 1 _) (wpAny_pure ?_)
  refine wpAny_bind (collect_tup ht hz ?_)
  refine wpAny_bind (wpAny_newList ?_ hz)
  have es : ((s.heap.push (seqObj "list" #[] 0)).update s.heap.objs.size (Obj.mapSeq (· ++ vs.toArray))).objs.size = s.heap.objs.size + 1 := by
    rw [Heap.size_update, size_push']
  have at1 : (((s.heap.push (seqObj "list" #[] 0)).update s.heap.objs.size (Obj.mapSeq (· ++ vs.toArray))).push (seqObj "list" vs.toArray 0)).get? (s.heap.objs.size + 1) = some (seqObj "list" vs.toArray 0) := by
    rw [← es]
    exact Heap.get?_push_size _ rfl
  show wpAny _ _ _ _ _ { s with heap := ((s.heap.push (seqObj "list" #[] 0)).update s.heap.objs.size (Obj.mapSeq (· ++ vs.toArray))).push (seqObj "list" vs.toArray 0) }
  rw [es]
  refine wpAny_bind (wpAny_holding (wpAny_call_entry slot_list_sort ⟨_, at1, rfl⟩ entry_list_sort (SrtO.list_sort_ord SrtO.swo_int at1 hz (fun h2 => SrtO.ints_sortable hI h2) fun out hs hb => ⟨_, rfl, ?_⟩) (args_list_sort _)))
  obtain ⟨k1, k2, k3⟩ := SrtO.ints_out hI hs hb
  exact wpAny_pure ⟨_, rfl, h out k1 k2 k3⟩
end
def rSortedT (K : PySem.W.Frag) : List V → Hp → VK → Prop := fun vs H Q => ∃ (a : Addr) (ns : List Int), vs = [V.ref a] ∧ SqT K H a (vi ns) ∧
  ∀ (ns' : List Int) (p : Addr), ns'.Perm ns → ns'.Pairwise (· ≤ ·) → H p = none → Q (.ref p) (upd H p (.lst (vi ns')))
theorem cr_sortedTup {X : Cx} : CallR X (.builtin "sorted") (rSortedT X.K) := by
  intro pins s σ H vs us Q I r h
  obtain ⟨a, ns, rfl, hs, q⟩ := h
  obtain ⟨its, rv, ht, hz⟩ := I.tuple hs
  rw [Vals.ref1 r]
  have hi := rv.ints
  refine sorted_tup ht (by rw [← rv.length]; exact hz) hi ?_
  intro out k1 k2 k3
  obtain ⟨ep, he'⟩ := PyProof.Rows.sortedAll_at s.heap its out.toArray
  have hlen : (vi (out.map SrtO.iv)).length ≤ sizeLine := by
    rw [List.length_map] at hz
    rw [List.length_map, k2.length_eq]
    exact hz
  exact ⟨.ref _, upd H (s.heap.objs.size + 1) (.lst (vi (out.map SrtO.iv))), I.laid (t' := s.toks) (fun _ _ => PyProof.Rows.sortedAll_old) (Nat.le_succ _) ⟨hlen, out, ep, vals_of_ints k1, he'⟩, rfl, q _ _ k2 k3 (I.hok.fresh (Nat.le_succ _))⟩

/-- the one sorted list -/
theorem sorted_unique {ns ms : List Int} (hp : ns.Perm ms) (h1 : ns.Pairwise (· ≤ ·)) (h2 : ms.Pairwise (· ≤ ·)) : ns = ms := by
  induction ns generalizing ms with
  | nil => exact (List.nil_perm.mp hp).symm
  | cons a r ih =>
    cases ms with
    | nil => exact absurd hp.length_eq (by simp)
    | cons b q =>
      have ha := List.pairwise_cons.mp h1
      have hb := List.pairwise_cons.mp h2
      have e : a = b := by
        have m1 : a ∈ b :: q := hp.mem_iff.mp List.mem_cons_self
        have m2 : b ∈ a :: r := hp.mem_iff.mpr List.mem_cons_self
        have l1 : b ≤ a := by
          rcases List.mem_cons.mp m1 with z | z
          · omega
          · exact hb.1 a z
        have l2 : a ≤ b := by
          rcases List.mem_cons.mp m2 with z | z
          · omega
          · exact ha.1 b z
        omega
      subst e
      rw [ih (List.Perm.cons_inv hp) ha.2 hb.2]

section
variable {K : PySem.W.Frag} {σ : L2.St} {H H' : Hp} {ta tb te tl : TE} {t u : TT} {x y z v : V} {D : Ends} {tu tz : TS}
theorem el_sortedT {p : Addr} {ns ms : List Int} (ha : Ev ta σ H (.ref p)) (h : SqT K H p (vi ns)) (hp : ns.Perm ms) (hm : ms.Pairwise (· ≤ ·)) : EvL (tCB (rSortedT K) (tCons ta tNil)) σ H (vi ms) := fun H1 e Q q =>
  ha H1 e _ fun H2 e2 => ⟨p, ns, rfl, ex_t (e.trans e2) h, fun ns' l k1 k2 hl => by
    rw [sorted_unique (k1.trans hp) k2 hm]
    exact q l _ (fresh_back e2 hl) (e2.trans (Ex.new hl)) upd_same⟩
theorem el_sortedN {ns ms : List Int} (ha : EvL ta σ H (vi ns)) (hp : ns.Perm ms) (hm : ms.Pairwise (· ≤ ·)) : EvL (tCB (rSortedI K) (tCons ta tNil)) σ H (vi ms) := fun H1 e Q q =>
  ha H1 e _ fun p H2 hp2 e2 h2 => ⟨p, ns, rfl, sq_of h2, fun ns' l k1 k2 hl => by
    rw [sorted_unique (k1.trans hp) k2 hm]
    exact q l _ (fresh_back e2 hl) (e2.trans (Ex.new hl)) upd_same⟩
/-- all(..) of a new list of truths -/
theorem ev_allN {bs : List Bool} (ha : EvL ta σ H (bs.map V.bl)) : Ev (tCB (rAll K) (tCons ta tNil)) σ H (.bl (bs.all id)) := fun H1 e Q q =>
  ha H1 e _ fun p H2 hp2 e2 h2 => ⟨p, bs, rfl, sq_of h2, q H2 e2⟩
/-- a comprehension over a tuple -/
theorem el_lcT {a : Addr} {xs : List V} {j : Nat} {vs : List Nat} (f : Nat → Bool) (v : Nat → V) (h : Ev tl σ H (.ref a)) (hx : SqT K H a xs) (hz : xs.length ≤ 40000) (hw : ∀ x, wipe ((wipe σ vs).set j (some x)) vs = wipe σ vs)
    (ht : ∀ (i : Nat) (x : V) H1, Ex H H1 → xs[i]? = some x → EvT t ((wipe σ vs).set j (some x)) H1 (f i)) (he : ∀ (i : Nat) (x : V) H1, Ex H H1 → xs[i]? = some x → f i = true → Ev te ((wipe σ vs).set j (some x)) H1 (v i)) :
    EvL (tLc (iTup K tl) (gName j) t te vs) σ H (given xs.length f v) := fun H0 e Q q => h H0 e _ fun H1 e1 => ⟨a, rfl, ⟨xs, ex_t (e.trans e1) hx⟩, fun Dl hD =>
  lc_tup (xs := xs) (Cw H1 f v Dl) ⟨hD, Ex.new hD, upd_same⟩ (fun i H' _ p => ex_t ((e.trans e1).trans p.2.1) hx) (fun i x H' hi p => ⟨hw x, cw_turn p (by have := (List.getElem?_eq_some_iff.mp hi).1; omega) (ht i x H1 (e.trans e1) hi) (fun hf => he i x H1 (e.trans e1) hi hf)⟩)
    (fun H' p => q Dl H' (fresh_back e1 p.1) (e1.trans p.2.1) p.2.2)⟩
theorem rv_neLN {p q : Addr} {ns ms : List Int} (h : H p = some (.lst (vi ns))) (h' : H q = some (.lst (vi ms))) : RV (rNeD K) (.ref p) (.ref q) H (.bl (!decide (ns = ms))) := rv_neL (sq_of h) (sq_of h')
/-- both operands new -/
theorem ev_neLL {ns ms : List Int} (ha : EvL ta σ H (vi ns)) (hb : EvL tb σ H (vi ms)) : Ev (tOp (rNeD K) ta tb) σ H (.bl (!decide (ns = ms))) :=
  ev_opLL ha hb fun p q H1 hp hq _ => rv_neLN hp hq
theorem ev_eqLL {ns ms : List Int} (ha : EvL ta σ H (vi ns)) (hb : EvL tb σ H (vi ms)) : Ev (tOp (rEqD K) ta tb) σ H (.bl (decide (ns = ms))) :=
  ev_opLL ha hb fun p q H1 hp hq _ => rv_eqL (sq_of hp) (sq_of hq)
/-! shuffles -/
def iota (n : Nat) : List Int := (List.range n).map fun i : Nat => (i : Int)
theorem iota_length (n : Nat) : (iota n).length = n := by simp [iota]
theorem iota_sorted (n : Nat) : (iota n).Pairwise (· ≤ ·) := by
  unfold iota
  rw [List.pairwise_map]
  exact (List.pairwise_lt_range (n := n)).imp fun h => by omega
theorem rgV_iota (n : Nat) : rgV 0 (n : Int) = vi (iota n) := by
  unfold rgV iota vi
  rw [List.map_map]
  have e : ((n : Int) - 0).toNat = n := by omega
  rw [e]
  refine List.map_congr_left fun i _ => ?_
  show V.int (0 + (i : Int)) = V.int (i : Int)
  rw [Int.zero_add]
def Shf (ns : List Int) : Prop := 0 < ns.length ∧ ns.length ≤ 300 ∧ ns.Perm (iota ns.length)
theorem Shf.mem {ns : List Int} (h : Shf ns) {n : Int} (m : n ∈ ns) : 0 ≤ n ∧ n < ns.length := by
  have := h.2.2.mem_iff.mp m
  obtain ⟨i, hi, rfl⟩ := List.mem_map.mp this
  have := List.mem_range.mp hi
  omega
theorem Shf.nodup {ns : List Int} (h : Shf ns) : ns.Nodup := by
  refine h.2.2.symm.nodup ?_
  unfold iota
  show List.Pairwise _ _
  rw [List.pairwise_map]
  exact (List.nodup_range (n := ns.length)).imp fun h e => h (by omega)
theorem Shf.wide {ns : List Int} (h : Shf ns) : wide 1900 ns := (wide_lt (k := 20) (by decide) fun n m => by
  have := h.mem m
  have := h.2.1
  omega).mono (by decide)

theorem vi_erase (ns : List Int) (k : Nat) : (vi ns).eraseIdx k = vi (ns.eraseIdx k) := by
  unfold vi
  induction ns generalizing k with
  | nil => rfl
  | cons a r ih =>
    cases k with
    | zero => rfl
    | succ k =>
      show V.int a :: (r.map V.int).eraseIdx k = V.int a :: (r.eraseIdx k).map V.int
      rw [ih]
theorem vi_set (ns : List Int) (k : Nat) (x : Int) : (vi ns).set k (.int x) = vi (ns.set k x) := by
  unfold vi
  rw [List.map_set]
theorem vi_app (ns ms : List Int) : vi ns ++ vi ms = vi (ns ++ ms) := by
  unfold vi
  rw [List.map_append]
/-- a new tuple, with draws -/
def EvWU (a : Addr) (d : Nat) (te : TE) (σ : L2.St) (H : Hp) (P : List V → Prop) : Prop := ∀ (n : Nat) (H1 : Hp), But a H H1 → Well H1 a n → n + d ≤ 2 ^ 50 → ∀ Q : VK, (∀ p xs H2, H1 p = none → But a H1 H2 → Well H2 a (n + d) → H2 p = some (.tup xs) → P xs → Q (.ref p) H2) → te σ H1 Q
variable {a : Addr} {d d1 d2 n : Nat} {P P1 : List V → Prop}
theorem sw_asgU {i : Nat} (h : EvWU a d te σ H P) (w : Well H a n) (l : n + d ≤ 2 ^ 50) (k : ∀ p xs H1, H p = none → But a H H1 → Well H1 a (n + d) → H1 p = some (.tup xs) → P xs → D.nx (σ.set i (some (.ref p))) H1) : tAsg te (gName i) D σ H :=
  h n H (But.refl a H) w l _ fun p xs H2 hp b2 w2 h2 p => k _ xs H2 hp b2 w2 h2 p
theorem qw_asgU {i : Nat} (h : EvWU a d te σ H P) (w : Well H a n) (l : n + d ≤ 2 ^ 50) (k : ∀ p xs H1, H p = none → But a H H1 → Well H1 a (n + d) → H1 p = some (.tup xs) → P xs → tz D (σ.set i (some (.ref p))) H1) : tSeq (tAsg te (gName i)) tz D σ H :=
  sw_asgU (D := { D with nx := tz D }) h w l k
theorem sw_retU (h : EvWU a d te σ H P) (w : Well H a n) (l : n + d ≤ 2 ^ 50) (k : ∀ p xs H1, H p = none → But a H H1 → Well H1 a (n + d) → H1 p = some (.tup xs) → P xs → D.rt (.ref p) H1) : tRet te D σ H :=
  h n H (But.refl a H) w l _ fun p xs H2 hp b2 w2 h2 p => k _ xs H2 hp b2 w2 h2 p
/-! ### [e for x in xs for y in ys] of tuples -/
def flat2 (n m : Nat) (v : Nat → Nat → V) : List V := (List.range n).flatMap fun i => (List.range m).map (v i)
theorem flat2_succ (n m : Nat) (v : Nat → Nat → V) : flat2 (n + 1) m v = flat2 n m v ++ (List.range m).map (v n) := by
  unfold flat2
  rw [List.range_succ, List.flatMap_append, List.flatMap_singleton]
theorem flat2_length (n m : Nat) (v : Nat → Nat → V) : (flat2 n m v).length = n * m := by
  induction n with
  | zero => simp [flat2]
  | succ n ih => rw [flat2_succ, List.length_append, ih, List.length_map, List.length_range, Nat.succ_mul]
theorem yes_go {A B : Hp → Prop} (h : A H) : tYes σ H (fun b H3 => if b = true then A H3 else B H3) := by
  show (if true = true then A H else B H)
  rw [if_pos rfl]
  exact h
theorem el_lc2T {ti1 : TE} {b1 b2 : Addr} {xs ys : List V} {i j : Nat} {vs vs1 : List Nat} (v : Nat → Nat → V) (h : Ev tl σ H (.ref b1)) (hx : SqT K H b1 xs) (hy : SqT K H b2 ys)
    (h1 : ∀ x H1, Ex H H1 → Ev ti1 ((wipe σ vs).set i (some x)) H1 (.ref b2)) (hz : xs.length * ys.length ≤ 40000)
    (hw : ∀ x, wipe ((wipe σ vs).set i (some x)) vs = wipe σ vs) (hw1 : ∀ x y, wipe ((wipe ((wipe σ vs).set i (some x)) vs1).set j (some y)) vs1 = wipe ((wipe σ vs).set i (some x)) vs1)
    (he : ∀ (n m : Nat) (x y : V) H1, Ex H H1 → xs[n]? = some x → ys[m]? = some y → Ev te ((wipe ((wipe σ vs).set i (some x)) vs1).set j (some y)) H1 (v n m)) :
    EvL (tLc2 (iTup K tl) (gName i) tYes (iTup K ti1) (gName j) tYes te vs vs1) σ H (flat2 xs.length ys.length v) := fun H0 e Q q => h H0 e _ fun H1 e1 => by
  have e01 := e.trans e1
  refine ⟨b1, rfl, ⟨xs, ex_t e01 hx⟩, fun Dl hD => ?_⟩
  refine ⟨fun n m H => m = xs.length - n ∧ n ≤ xs.length ∧ Ex H1 H ∧ H Dl = some (.lst (flat2 n ys.length v)), ⟨xs.length, by simp, Nat.zero_le _, Ex.new hD, upd_same⟩, ?_⟩
  rintro n m H ⟨rfl, hn, e2, hd⟩
  have qx := ex_t (e01.trans e2) hx
  by_cases hlt : n < xs.length
  · refine .inr ⟨⟨xs, xs[n], qx, by simp [hlt]⟩, fun H' => Ex H1 H' ∧ H' Dl = some (.lst (flat2 (n + 1) ys.length v)), fun H' p' => ⟨xs.length - (n + 1), by omega, rfl, hlt, p'⟩, ?_⟩
    rintro x H' ⟨rfl, gx⟩
    have hxn := gx xs qx
    refine ⟨hw x, yes_go ?_⟩
    refine h1 x H' (e01.trans e2) H' (Ex.refl H') _ fun H4 e4 => ⟨b2, rfl, ⟨ys, ex_t ((e01.trans e2).trans e4) hy⟩, ?_⟩
    refine ⟨fun k m H => m = ys.length - k ∧ k ≤ ys.length ∧ Ex H1 H ∧ H Dl = some (.lst (flat2 n ys.length v ++ (List.range k).map (v n))), ⟨ys.length, by simp, Nat.zero_le _, e2.trans e4, by rw [e4 _ _ hd]; simp⟩, ?_⟩
    rintro k m H ⟨rfl, hk, e5, hd5⟩
    have qy := ex_t (e01.trans e5) hy
    by_cases hlk : k < ys.length
    · refine .inr ⟨⟨ys, ys[k], qy, by simp [hlk]⟩, fun H' => Ex H1 H' ∧ H' Dl = some (.lst (flat2 n ys.length v ++ (List.range (k + 1)).map (v n))), fun H' p' => ⟨ys.length - (k + 1), by omega, rfl, hlk, p'⟩, ?_⟩
      rintro y H' ⟨rfl, gy⟩
      refine ⟨hw1 x y, yes_go ?_⟩
      refine he n k x y H' (e01.trans e5) hxn (gy ys qy) H' (Ex.refl H') _ fun H6 e6 => ⟨_, e6 _ _ hd5, sz_lt ?_, Ex.mut (e5.trans e6) hD, ?_⟩
      · rw [List.length_append, flat2_length, List.length_map, List.length_range]
        have a1 : (n + 1) * ys.length ≤ xs.length * ys.length := Nat.mul_le_mul_right _ hlt
        rw [Nat.succ_mul] at a1
        omega
      · rw [upd_same, List.range_succ, List.map_append, List.append_assoc]
        rfl
    · have ek : k = ys.length := by omega
      subst ek
      refine .inl ⟨⟨ys, qy, Nat.le_refl _⟩, e5, ?_⟩
      rw [hd5, flat2_succ]
  · have en : n = xs.length := by omega
    subst en
    exact .inl ⟨⟨xs, qx, Nat.le_refl _⟩, q Dl H (fresh_back e1 hD) (e1.trans e2) hd⟩
/-- a new tuple as an argument -/
theorem eu_callU1 {sp : Sp} {xs zs : List V} {E : XK} (h : EvU ta σ H xs) (h2 : ∀ p H1, Ex H H1 → H1 p = some (.tup xs) → Ev tb σ H1 y) (hs : ∀ p H1, Ex H H1 → H1 p = some (.tup xs) → SpU sp [.ref p, y] H1 zs) : EvU (tCall sp [] E (tCons ta (tCons tb tNil))) σ H zs := fun H1 e Q q =>
  h H1 e _ fun p H2 hp e2 g2 => h2 p H2 (e.trans e2) g2 H2 (Ex.refl H2) _ fun H3 e3 => hs p H3 ((e.trans e2).trans e3) (e3 _ _ g2) H3 (Ex.refl H3) Q (fun r H4 hr e4 h4 => q r H4 (fresh_back (e2.trans e3) hr) ((e2.trans e3).trans e4) h4) E
theorem eu_callU2 {sp : Sp} {xs zs : List V} {E : XK} (h : Ev ta σ H x) (h2 : EvU tb σ H xs) (hs : ∀ p H1, Ex H H1 → H1 p = some (.tup xs) → SpU sp [x, .ref p] H1 zs) : EvU (tCall sp [] E (tCons ta (tCons tb tNil))) σ H zs := fun H1 e Q q =>
  h H1 e _ fun H2 e2 => h2 H2 (e.trans e2) _ fun p H3 hp e3 g3 => hs p H3 ((e.trans e2).trans e3) g3 H3 (Ex.refl H3) Q (fun r H4 hr e4 h4 => q r H4 (fresh_back (e2.trans e3) hr) ((e2.trans e3).trans e4) h4) E
end
end Bk
namespace Bk
open PySem PySem.Spec PyProof.Rows L2 Evl
/-! ### where built-in names stand; rules with the written part named -/
theorem bt_len : bootBuiltins "len" = some (.builtin "len") := by decide +kernel
theorem bt_abs : bootBuiltins "abs" = some (.builtin "abs") := by decide +kernel
theorem bt_max : bootBuiltins "max" = some (.builtin "max") := by decide +kernel
theorem bt_min : bootBuiltins "min" = some (.builtin "min") := by decide +kernel
theorem bt_sum : bootBuiltins "sum" = some (.builtin "sum") := by decide +kernel
theorem bt_sorted : bootBuiltins "sorted" = some (.builtin "sorted") := by decide +kernel
theorem bt_all : bootBuiltins "all" = some (.builtin "all") := by decide +kernel
theorem bt_any : bootBuiltins "any" = some (.builtin "any") := by decide +kernel
theorem bt_repr : bootBuiltins "repr" = some (.builtin "repr") := by decide +kernel
theorem bt_isinstance : bootBuiltins "isinstance" = some (.builtin "isinstance") := by decide +kernel
theorem bt_str : bootBuiltins "str" = some (.type "str") := by decide +kernel
section
variable {X : Cx} {K : PySem.W.Frag}
theorem call_lenK (h : X.K = K) : CallR X (.builtin "len") (rLenS K) := by
  subst h
  exact call_len_seq
theorem cr_sumK (h : X.K = K) (hc : X.calm = true) : CallR X (.builtin "sum") (rSum K) := by
  subst h
  exact cr_sum hc
theorem cr_allK (h : X.K = K) (hc : X.calm = true) : CallR X (.builtin "all") (rAll K) := by
  subst h
  exact cr_all hc
theorem call_listK (h : X.K = K) : CallR X (.type "list") (fun xs H Q => ∃ p ys, xs = [.ref p] ∧ (SqL K H p ys ∨ SqT K H p ys) ∧ ∀ l, H l = none → Q (.ref l) (upd H l (.lst ys))) := by
  subst h
  exact call_list_of
theorem call_tupleK (h : X.K = K) : CallR X (.type "tuple") (rTupOf K) := by
  subst h
  exact call_tuple_of
theorem call_reprK (h : X.K = K) (hg : X.A.guards = some []) (hu : X.A.units + 64 < cLine) : CallR X (.builtin "repr") (rRepr K) := by
  subst h
  exact call_repr hg hu
theorem call_isiK' (h : X.K = K) : CallR X (.builtin "isinstance") (rIsi K) := by
  subst h
  exact call_isi
theorem ix_listK (h : X.K = K) : IxR X (rIxL K) := by
  subst h
  exact ix_list
theorem ix_tupK (h : X.K = K) : IxR X (rIxT K) := by
  subst h
  exact ix_tup
theorem sl_listK (h : X.K = K) : SlR X (rSlL K) := by
  subst h
  exact sl_list
theorem op_eqDK (h : X.K = K) (hu : X.A.units + 64 < cLine) : OpR X (compareOp .Eq) (rEqD K) := by
  subst h
  exact op_eqD hu
theorem op_neDK (h : X.K = K) (hu : X.A.units + 64 < cLine) : OpR X (compareOp .NotEq) (rNeD K) := by
  subst h
  exact op_neD hu
theorem pi_listK {tg e : Expr} {te : TE} (h : X.K = K) (he : PE X e te) : PI X tg e (iList K te) := by
  subst h
  exact pi_list he
theorem pi_tupK {tg e : Expr} {te : TE} (h : X.K = K) (he : PE X e te) : PI X tg e (iTup K te) := by
  subst h
  exact pi_tup he
end
end Bk
namespace Bk
open PySem PySem.Spec PyProof.Rows L2 Evl
/-! ### a list of the numbers below its length, each once -/
theorem len_le {n : Nat} : ∀ {l : List Int}, l.Nodup → (∀ x ∈ l, 0 ≤ x ∧ x < n) → l.length ≤ n := by
  induction n with
  | zero =>
    intro l _ h
    cases l with
    | nil => exact Nat.le_refl _
    | cons a r =>
      have := h a List.mem_cons_self
      omega
  | succ n ih =>
    intro l hn h
    have h1 := ih (l := l.erase (n : Int)) (hn.erase _) fun x hx => by
      have m := hn.mem_erase_iff.mp hx
      have := h x m.2
      have := m.1
      omega
    rw [List.length_erase] at h1
    split at h1 <;> omega
theorem perm_iota {n : Nat} : ∀ {l : List Int}, l.Nodup → (∀ x ∈ l, 0 ≤ x ∧ x < n) → l.length = n → l.Perm (iota n) := by
  induction n with
  | zero =>
    intro l _ _ hl
    have : l = [] := List.length_eq_zero_iff.mp hl
    subst this
    exact List.Perm.refl _
  | succ n ih =>
    intro l hn h hl
    have hm : (n : Int) ∈ l := by
      refine Classical.byContradiction fun c => ?_
      have := len_le (n := n) hn fun x hx => by
        have := h x hx
        have : x ≠ (n : Int) := fun e => c (e ▸ hx)
        omega
      omega
    have p := List.perm_cons_erase hm
    have h1 := ih (l := l.erase (n : Int)) (hn.erase _) (fun x hx => by
      have m := hn.mem_erase_iff.mp hx
      have := h x m.2
      have := m.1
      omega) (by
      have := p.length_eq
      rw [List.length_cons] at this
      omega)
    have e : iota (n + 1) = iota n ++ [(n : Int)] := by
      unfold iota
      rw [List.range_succ, List.map_append]
      rfl
    rw [e]
    exact p.trans ((List.Perm.cons _ h1).trans (List.perm_append_comm (l₁ := [(n : Int)]) (l₂ := iota n)))
section
variable {K : PySem.W.Frag} {σ : L2.St} {H H' : Hp} {ta tb te tl ti : TE} {t u : TT} {x y z v : V} {D : Ends} {tu tz : TS} {a : Addr} {d d1 d2 n : Nat} {P P1 P2 : V → Prop}
/-- t + u of tuples -/
theorem eu_catT {p : Addr} {xs ys : List V} (ha : Ev ta σ H (.ref p)) (hb : EvU tb σ H ys) (h : SqT K H p xs) (h0 : xs ≠ []) (h1 : ys ≠ []) (hz : xs.length + ys.length ≤ 100000) : EvU (tOp (rCatT K) ta tb) σ H (xs ++ ys) := fun H1 e Q k =>
  ha H1 e _ fun H2 e2 => hb H2 (e.trans e2) _ fun r H3 hr e3 h3 => ⟨p, r, xs, ys, rfl, rfl, ex_t ((e.trans e2).trans e3) h, st_of h3, h0, sz_of hz, fun c => (h1 c).elim, fun _ l hl => k l _ (fresh_back (e2.trans e3) hl) ((e2.trans e3).trans (Ex.new hl)) upd_same⟩
theorem op_catTK {X : Cx} (h : X.K = K) : OpR X (binaryOp .Add) (rCatT K) := by
  subst h
  exact op_catT
/-! arguments with draws -/
def EvWA (a : Addr) (d : Nat) (te : TA) (σ : L2.St) (H : Hp) (P : List V → Prop) : Prop := ∀ (n : Nat) (H1 : Hp), But a H H1 → Well H1 a n → n + d ≤ 2 ^ 50 → ∀ Q : List V → Hp → Prop, (∀ vs H2, But a H1 H2 → Well H2 a (n + d) → P vs → Q vs H2) → te σ H1 Q
theorem ewa_nil : EvWA a 0 tNil σ H (fun vs => vs = []) := fun n H1 b w l Q q => q [] H1 (But.refl a H1) w rfl
theorem ewa_cons {tr : TA} {PL : List V → Prop} (h : EvW a d1 te σ H P) (hr : EvWA a d2 tr σ H PL) : EvWA a (d1 + d2) (tCons te tr) σ H (fun vs => ∃ x xs, vs = x :: xs ∧ P x ∧ PL xs) := fun n H1 b w l Q q =>
  h n H1 b w (by omega) _ fun x H2 b2 w2 px => hr (n + d1) H2 (b.trans b2) w2 (by omega) _ fun xs H3 b3 w3 pl => q _ H3 (b2.trans b3) (by
    rw [← Nat.add_assoc]
    exact w3) ⟨x, xs, rfl, px, pl⟩
theorem ewl_lst {t : TA} {PL : List V → Prop} (h : EvWA a d t σ H PL) (hz : ∀ xs, PL xs → xs.length ≤ 100000) : EvWL a d (tLst t) σ H PL := fun n H1 b w l Q q =>
  h n H1 b w l _ fun xs H2 b2 w2 pl => ⟨sz_of (hz xs pl), fun p hp => q p xs _ (but_free b2 w2 hp) (b2.trans (But.new hp)) (w2.ex (Ex.new hp)) upd_same pl⟩
theorem ew_ixW {PL : List V → Prop} (hl : EvWL a d1 tl σ H PL) (hi : EvW a d2 ti σ H P) (hP : ∀ xs v, PL xs → P v → ∃ (i : Int) (x : V), v = .int i ∧ atI xs i = some x ∧ P1 x) : EvW a (d1 + d2) (tOp (rIxL K) tl ti) σ H P1 := fun n H1 b w l Q q =>
  hl n H1 b w (by omega) _ fun p xs H2 hp b2 w2 h2 px => hi (n + d1) H2 (b.trans b2) w2 (by omega) _ fun v H3 b3 w3 pv => by
    obtain ⟨i, x, rfl, hx, px'⟩ := hP xs v px pv
    rw [Nat.add_assoc] at w3
    exact ⟨p, xs, i, x, rfl, rfl, sq_of (b3 p _ (w.ne hp) h2), hx, q x H3 (b2.trans b3) w3 px'⟩
theorem ew_weak (h : EvW a d te σ H P) (l : d ≤ d1) : EvW a d1 te σ H P := fun n H1 b w hl Q q => h n H1 b w (by omega) Q fun v H2 b2 w2 p => q v H2 b2 (w2.mono (by omega)) p
theorem ew_if {b : Bool} (ht : EvT t σ (hid a H) b) (h1 : b = true → EvW a d ta σ H P) (h2 : b = false → EvW a d tb σ H P) : EvW a d (tIf t ta tb) σ H P := fun n H1 bt w l Q q =>
  ht H1 (ex_hid bt) _ fun H2 e2 => by
    have q' : ∀ v H3, But a H2 H3 → Well H3 a (n + d) → P v → Q v H3 := fun v H3 b3 w3 p => q v H3 ((But.ex e2).trans b3) w3 p
    cases b with
    | true => exact iteT (h1 rfl n H2 (bt.trans (But.ex e2)) (w.ex e2) l Q q')
    | false => exact iteF (h2 rfl n H2 (bt.trans (But.ex e2)) (w.ex e2) l Q q')
/-! range(a, b, c) upwards -/
theorem RgC.up {j c : Int} (h0 : 0 ≤ j) (h1 : j ≤ 100000) (c0 : 0 < c) (c1 : c ≤ 100000) : ∃ n : Nat, RgC 0 j c n ∧ ∀ k : Nat, k < n → (k : Int) * c < j := by
  have hs : Builtin.Range.rangeSize 0 j c = (if 0 < j then (j - 0 - 1) / c + 1 else 0) := by
    unfold Builtin.Range.rangeSize
    rw [if_pos c0]
  have hd0 : 0 < j → 0 ≤ (j - 0 - 1) / c := fun h => Int.ediv_nonneg (by omega) (by omega)
  have hd1 : 0 < j → (j - 0 - 1) / c ≤ j - 0 - 1 := fun h => Int.ediv_le_self _ (by omega)
  refine ⟨(if 0 < j then (j - 0 - 1) / c + 1 else 0).toNat, ⟨by omega, by omega, ?_, ?_⟩, ?_⟩
  · unfold Builtin.Range.small
    rw [hs]
    simp only [Builtin.Range.rangeFitsLong, Bool.and_eq_true, Bool.or_eq_true, decide_eq_true_eq, beq_iff_eq, if_pos c0]
    by_cases hj : 0 < j
    · have := hd0 hj
      have := hd1 hj
      rw [if_pos hj]
      omega
    · rw [if_neg hj]
      omega
  · rw [hs, Int.toNat_of_nonneg]
    split
    · have := hd0 (by assumption)
      omega
    · omega
  · intro k hk
    by_cases hj : 0 < j
    · rw [if_pos hj] at hk
      have h2 : (k : Int) ≤ (j - 0 - 1) / c := by
        have := hd0 hj
        omega
      have := (Int.le_ediv_iff_mul_le c0).mp h2
      omega
    · rw [if_neg hj] at hk
      exact absurd hk (Nat.not_lt_zero _)
theorem q_forR3 {ta : TA} {i : Nat} {j c : Int} (h : EvA ta σ H [.int 0, .int j, .int c]) (h0 : 0 ≤ j) (h1 : j ≤ 100000) (c0 : 0 < c) (c1 : c ≤ 100000) (Pv : Nat → L2.St → Hp → Prop) (hp0 : ∀ H1, Ex H H1 → Pv 0 σ H1)
    (hs : ∀ (k : Nat) σ' H', (k : Int) * c < j → Pv k σ' H' → tu { D with nx := Pv (k + 1), ct := Pv (k + 1), bk := tz D } (σ'.set i (some (.int ((k : Int) * c)))) H') (hd : ∀ k σ' H', Pv k σ' H' → tz D σ' H') : tSeq (tFor (iRng3 ta) (gName i) tu) tz D σ H := by
  obtain ⟨n, hr, hn⟩ := RgC.up h0 h1 c0 c1
  refine h H (Ex.refl H) _ fun H1 e1 => ⟨0, j, c, n, rfl, hr, for_rangeC (lo := 0) (c := c) (n := n) Pv (hp0 H1 e1) (fun k σ' H' hk p => ?_) fun σ' H' p => hd n σ' H' p⟩
  have e0 : (0 : Int) + (k : Int) * c = (k : Int) * c := Int.zero_add _
  show tu { D with nx := Pv (k + 1), ct := Pv (k + 1), bk := tz D } (σ'.set i (some (.int ((0 : Int) + (k : Int) * c)))) H'
  rw [e0]
  exact hs k σ' H' (hn k hk) p
/-- three new tuples, drawn -/
theorem qw_par3U {i j l : Nat} {tc : TE} {d3 : Nat} {PA PB PC : List V → Prop} (h1 : EvWU a d1 ta σ H PA) (h2 : EvWU a d2 tb σ H PB) (h3 : EvWU a d3 tc σ H PC) (w : Well H a n) (hl : n + (d1 + d2 + d3) ≤ 2 ^ 50)
    (k : ∀ p q r xs ys zs H1, H p = none → H q = none → H r = none → But a H H1 → Well H1 a (n + (d1 + d2 + d3)) → H1 p = some (.tup xs) → H1 q = some (.tup ys) → H1 r = some (.tup zs) → PA xs → PB ys → PC zs →
      tz D (((σ.set i (some (.ref p))).set j (some (.ref q))).set l (some (.ref r))) H1) : tSeq (tPar3 i j l (tCons ta (tCons tb (tCons tc tNil)))) tz D σ H :=
  h1 n H (But.refl a H) w (by omega) _ fun p xs H2 hp b2 w2 g2 pa => h2 (n + d1) H2 b2 w2 (by omega) _ fun q ys H3 hq b3 w3 g3 pb => h3 (n + d1 + d2) H3 (b2.trans b3) w3 (by omega) _ fun r zs H4 hr b4 w4 g4 pc => by
    refine ⟨_, _, _, rfl, k p q r xs ys zs H4 hp (but_free b2 w2 hq) (but_free (b2.trans b3) w3 hr) ((b2.trans b3).trans b4) ?_ (b4 _ _ (w.ne hp) (b3 _ _ (w.ne hp) g2)) (b4 _ _ (w2.ne hq) g3) g4 pa pb pc⟩
    rw [show n + (d1 + d2 + d3) = n + d1 + d2 + d3 by omega]
    exact w4
theorem qw_par3L {i j l : Nat} {tc : TE} {d3 : Nat} {PA PB PC : List V → Prop} (h1 : EvWL a d1 ta σ H PA) (h2 : EvWL a d2 tb σ H PB) (h3 : EvWL a d3 tc σ H PC) (w : Well H a n) (hl : n + (d1 + d2 + d3) ≤ 2 ^ 50)
    (k : ∀ p q r xs ys zs H1, H p = none → H q = none → H r = none → But a H H1 → Well H1 a (n + (d1 + d2 + d3)) → H1 p = some (.lst xs) → H1 q = some (.lst ys) → H1 r = some (.lst zs) → PA xs → PB ys → PC zs →
      tz D (((σ.set i (some (.ref p))).set j (some (.ref q))).set l (some (.ref r))) H1) : tSeq (tPar3 i j l (tCons ta (tCons tb (tCons tc tNil)))) tz D σ H :=
  h1 n H (But.refl a H) w (by omega) _ fun p xs H2 hp b2 w2 g2 pa => h2 (n + d1) H2 b2 w2 (by omega) _ fun q ys H3 hq b3 w3 g3 pb => h3 (n + d1 + d2) H3 (b2.trans b3) w3 (by omega) _ fun r zs H4 hr b4 w4 g4 pc => by
    refine ⟨_, _, _, rfl, k p q r xs ys zs H4 hp (but_free b2 w2 hq) (but_free (b2.trans b3) w3 hr) ((b2.trans b3).trans b4) ?_ (b4 _ _ (w.ne hp) (b3 _ _ (w.ne hp) g2)) (b4 _ _ (w2.ne hq) g3) g4 pa pb pc⟩
    rw [show n + (d1 + d2 + d3) = n + d1 + d2 + d3 by omega]
    exact w4
end
end Bk
namespace Bk
open PySem PySem.Spec PyProof.Rows L2 Evl
/-! ### lists of lists of numbers -/
def up (r : List Nat) : List Int := r.map fun k : Nat => (k : Int)
theorem up_length (r : List Nat) : (up r).length = r.length := by simp [up]
def Nest (H : Hp) (qs : List Addr) (R : List (List Nat)) : Prop := qs.length = R.length ∧ ∀ (i : Nat) (q : Addr) (r : List Nat), qs[i]? = some q → R[i]? = some r → H q = some (.lst (vi (up r)))
section
variable {K : PySem.W.Frag} {σ : L2.St} {H H1 H' : Hp} {qs : List Addr} {R : List (List Nat)} {p q : Addr} {r : List Nat} {ta tb te tl : TE} {t u : TT} {x y z v : V} {D : Ends} {tu tw tz : TS}
theorem Nest.nil : Nest H [] [] := ⟨rfl, fun _ _ _ h => nomatch h⟩
theorem Nest.ex (h : Nest H qs R) (e : Ex H H1) : Nest H1 qs R := ⟨h.1, fun i q r a b => e _ _ (h.2 i q r a b)⟩
theorem Nest.but (h : Nest H qs R) (e : But p H H1) (n : ∀ q ∈ qs, q ≠ p) : Nest H1 qs R := ⟨h.1, fun i q r a b => e _ _ (n q (List.mem_of_getElem? a)) (h.2 i q r a b)⟩
theorem Nest.upd {o : HO} (h : Nest H qs R) (n : ∀ q ∈ qs, q ≠ p) : Nest (L2.upd H p o) qs R := ⟨h.1, fun i q r a b => by
  rw [upd_ne (n q (List.mem_of_getElem? a))]
  exact h.2 i q r a b⟩
theorem Nest.some (h : Nest H qs R) (hq : q ∈ qs) : ∃ o, H q = some o := by
  obtain ⟨i, hi, e⟩ := List.getElem_of_mem hq
  have hi' : i < R.length := h.1 ▸ hi
  exact ⟨_, h.2 i q R[i] (by rw [← e, List.getElem?_eq_getElem hi]) (List.getElem?_eq_getElem hi')⟩
theorem Nest.ne (_ : Nest H qs R) (h : Nest H1 qs R) (hq : q ∈ qs) (n : H1 p = none) : q ≠ p := fun e => by
  obtain ⟨o, ho⟩ := h.some hq
  rw [e, n] at ho
  cases ho
theorem Nest.put (h : Nest H qs R) (hq : H q = Option.some (.lst (vi (up r)))) : Nest H (qs ++ [q]) (R ++ [r]) := by
  refine ⟨by rw [List.length_append, List.length_append, h.1]; rfl, fun i q' r' a b => ?_⟩
  by_cases c : i < qs.length
  · rw [List.getElem?_append_left c] at a
    rw [List.getElem?_append_left (h.1 ▸ c)] at b
    exact h.2 i q' r' a b
  · rw [List.getElem?_append_right (by omega)] at a
    rw [List.getElem?_append_right (by have := h.1; omega)] at b
    rw [← h.1] at b
    match hi : i - qs.length, a, b with
    | 0, a, b =>
      cases a
      cases b
      exact hq
    | k + 1, a, b => cases a
theorem ne_of_none' {o : HO} {a b : Addr} (n : H a = none) (h : H b = some o) : a ≠ b := fun e => by
  rw [e, h] at n
  cases n
theorem rings_le {R : List (List Nat)} (h : ∀ r ∈ R, 0 < r.length) : R.length ≤ R.flatten.length := by
  induction R with
  | nil => exact Nat.le_refl _
  | cons a R ih =>
    rw [List.flatten_cons, List.length_append, List.length_cons]
    have := h a List.mem_cons_self
    have := ih fun r hr => h r (List.mem_cons_of_mem _ hr)
    omega
def RetN (R : List (List Nat)) (H : Hp) (Q : VK) : Prop := ∀ p qs H2, H p = none → Ex H H2 → H2 p = some (.lst (qs.map .ref)) → Nest H2 qs R → (∀ q ∈ qs, H q = none) → Q (.ref p) H2
def SpN (sp : Sp) (vs : List V) (H : Hp) (R : List (List Nat)) : Prop := ∀ H1, Ex H H1 → ∀ Q : VK, RetN R H1 Q → ∀ E : XK, sp vs H1 Q E
def EvN (te : TE) (σ : L2.St) (H : Hp) (R : List (List Nat)) : Prop := ∀ H1, Ex H H1 → ∀ Q : VK, RetN R H1 Q → te σ H1 Q
theorem en_call {sp : Sp} {vs : List V} {E : XK} {ta : TA} (h : EvA ta σ H vs) (hs : SpN sp vs H R) : EvN (tCall sp [] E ta) σ H R := fun H1 e Q q =>
  h H1 e _ fun H2 e2 => by
    have := hs H2 (e.trans e2) Q (fun p qs H3 hp e3 h3 n f => q p qs H3 (fresh_back e2 hp) (e2.trans e3) h3 n fun b hb => fresh_back e2 (f b hb)) E
    rw [← List.append_nil vs] at this
    exact this
/-- a comprehension over it -/
theorem el_lcN {j : Nat} {vs : List Nat} (f : Nat → Bool) (v : Nat → V) (h : EvN tl σ H R) (hz : R.length ≤ 40000) (hw : ∀ x, wipe ((wipe σ vs).set j (some x)) vs = wipe σ vs)
    (ht : ∀ (i : Nat) q r H1, Ex H H1 → R[i]? = some r → H1 q = some (.lst (vi (up r))) → EvT t ((wipe σ vs).set j (some (.ref q))) H1 (f i)) (he : ∀ (i : Nat) q r H1, Ex H H1 → R[i]? = some r → H1 q = some (.lst (vi (up r))) → f i = true → Ev te ((wipe σ vs).set j (some (.ref q))) H1 (v i)) :
    EvL (tLc (iList K tl) (gName j) t te vs) σ H (given R.length f v) := fun H0 e Q q => h H0 e _ fun a qs H1 ha e1 hx nq _ => ⟨a, rfl, ⟨qs.map .ref, sq_of hx⟩, fun Dl hD =>
  lc_list (xs := qs.map .ref) (Cw H1 f v Dl) ⟨hD, Ex.new hD, upd_same⟩ (fun i H' _ p => sq_of (p.2.1 a _ hx)) (fun i x H' hi p => by
    rw [List.getElem?_map] at hi
    cases g : qs[i]? with
    | none => rw [g] at hi; cases hi
    | some b =>
      rw [g] at hi
      cases hi
      have hl := (List.getElem?_eq_some_iff.mp g).1
      have hlr : i < R.length := nq.1 ▸ hl
      have hR : R[i]? = some R[i] := List.getElem?_eq_getElem hlr
      have hb := nq.2 i b _ g hR
      refine ⟨hw _, cw_turn p (by have := nq.1; omega) (ht i b _ H1 (e.trans e1) hR hb) (fun hf => he i b _ H1 (e.trans e1) hR hb hf)⟩)
    (fun H' p => q Dl H' (fresh_back e1 p.1) (e1.trans p.2.1) (by
      have := p.2.2
      rw [List.length_map, nq.1] at this
      exact this))⟩
/-- a loop over it -/
theorem s_forN {j : Nat} (h : EvN tl σ H R) (Pv : Addr → List Addr → Nat → L2.St → Hp → Prop) (h0 : ∀ p qs H1, H p = none → Ex H H1 → H1 p = some (.lst (qs.map .ref)) → Nest H1 qs R → (∀ q ∈ qs, H q = none) → Pv p qs 0 σ H1)
    (hl : ∀ p qs i σ' H', i ≤ R.length → Pv p qs i σ' H' → H' p = some (.lst (qs.map .ref)) ∧ Nest H' qs R)
    (hs : ∀ p qs i q r σ' H', R[i]? = some r → H' q = some (.lst (vi (up r))) → q ∈ qs → Pv p qs i σ' H' → tu { D with nx := Pv p qs (i + 1), ct := Pv p qs (i + 1), bk := D.nx } (σ'.set j (some (.ref q))) H') (hd : ∀ p qs σ' H', Pv p qs R.length σ' H' → D.nx σ' H') : tFor (iList K tl) (gName j) tu D σ H :=
  h H (Ex.refl H) _ fun p qs H1 hp e h1 nq fq => ⟨p, rfl, ⟨qs.map .ref, sq_of h1⟩, for_list (Pv p qs) (h0 p qs H1 hp e h1 nq fq) (fun i σ' H' hi k => sq_of (hl p qs i σ' H' (by rw [List.length_map, nq.1] at hi; exact hi) k).1) (fun i x σ' H' hx k => by
    rw [List.getElem?_map] at hx
    cases g : qs[i]? with
    | none => rw [g] at hx; cases hx
    | some b =>
      rw [g] at hx
      cases hx
      have hlt := (List.getElem?_eq_some_iff.mp g).1
      have hlr : i < R.length := nq.1 ▸ hlt
      have hR : R[i]? = some R[i] := List.getElem?_eq_getElem hlr
      exact hs p qs i b _ σ' H' hR ((hl p qs i σ' H' (Nat.le_of_lt hlr) k).2.2 i b _ g hR) (List.mem_of_getElem? g) k) (fun σ' H' k => hd p qs σ' H' (by rw [List.length_map, nq.1] at k; exact k))⟩
theorem q_forN {j : Nat} (h : EvN tl σ H R) (Pv : Addr → List Addr → Nat → L2.St → Hp → Prop) (h0 : ∀ p qs H1, H p = none → Ex H H1 → H1 p = some (.lst (qs.map .ref)) → Nest H1 qs R → (∀ q ∈ qs, H q = none) → Pv p qs 0 σ H1)
    (hl : ∀ p qs i σ' H', i ≤ R.length → Pv p qs i σ' H' → H' p = some (.lst (qs.map .ref)) ∧ Nest H' qs R)
    (hs : ∀ p qs i q r σ' H', R[i]? = some r → H' q = some (.lst (vi (up r))) → q ∈ qs → Pv p qs i σ' H' → tu { D with nx := Pv p qs (i + 1), ct := Pv p qs (i + 1), bk := tz D } (σ'.set j (some (.ref q))) H') (hd : ∀ p qs σ' H', Pv p qs R.length σ' H' → tz D σ' H') : tSeq (tFor (iList K tl) (gName j) tu) tz D σ H :=
  s_forN (D := { D with nx := tz D }) h Pv h0 hl hs hd
end
end Bk
namespace Bk
open PySem PySem.Spec PyProof.Rows L2 Evl
/-! ### tests and calls with drawn parts -/
def EvWT (a : Addr) (d : Nat) (t : TT) (σ : L2.St) (H : Hp) (b : Bool) : Prop := ∀ (n : Nat) (H1 : Hp), But a H H1 → Well H1 a n → n + d ≤ 2 ^ 50 → ∀ Q : Bool → Hp → Prop, (∀ H2, But a H1 H2 → Well H2 a (n + d) → Q b H2) → t σ H1 Q
section
variable {K : PySem.W.Frag} {σ : L2.St} {H : Hp} {ta tb te ti tl : TE} {t u : TT} {a : Addr} {d d1 d2 n : Nat} {P P1 P2 : V → Prop} {v x y : V} {b : Bool} {D : Ends} {tu tw tz : TS} {sp : Sp} {E : XK}
theorem ewt_test (h : EvW a d te σ H (fun v => v = .bl b)) : EvWT a d (tTest te) σ H b := fun n H1 bt w l Q q => h n H1 bt w l _ fun v H2 b2 w2 e => ⟨b, e, q H2 b2 w2⟩
theorem ewt_B (h : EvW a d te σ H (fun v => v = .bl b)) : EvWT a d (tB te) σ H b := fun n H1 bt w l Q q => h n H1 bt w l _ fun v H2 b2 w2 e => ⟨b, e, q H2 b2 w2⟩
theorem ewt_not {c : Bool} (h : EvWT a d t σ H c) : EvWT a d (tNot t) σ H (!c) := fun n H1 bt w l Q q => h n H1 bt w l _ fun H2 b2 w2 => q H2 b2 w2
theorem qw_when (h : EvWT a d t σ H b) (w : Well H a n) (l : n + d ≤ 2 ^ 50) (k1 : b = true → ∀ H1, But a H H1 → Well H1 a (n + d) → tu { D with nx := tz D } σ H1) (k2 : b = false → ∀ H1, But a H H1 → Well H1 a (n + d) → tw { D with nx := tz D } σ H1) : tSeq (tIfS t tu tw) tz D σ H :=
  h n H (But.refl a H) w l _ fun H2 b2 w2 => by
    cases b with
    | true => exact iteT (k1 rfl H2 b2 w2)
    | false => exact iteF (k2 rfl H2 b2 w2)
theorem sw_when (h : EvWT a d t σ H b) (w : Well H a n) (l : n + d ≤ 2 ^ 50) (k1 : b = true → ∀ H1, But a H H1 → Well H1 a (n + d) → tu D σ H1) (k2 : b = false → ∀ H1, But a H H1 → Well H1 a (n + d) → tw D σ H1) : tIfS t tu tw D σ H :=
  h n H (But.refl a H) w l _ fun H2 b2 w2 => by
    cases b with
    | true => exact iteT (k1 rfl H2 b2 w2)
    | false => exact iteF (k2 rfl H2 b2 w2)
theorem sw_ret (h : EvW a d te σ H P) (w : Well H a n) (l : n + d ≤ 2 ^ 50) (k : ∀ v H1, But a H H1 → Well H1 a (n + d) → P v → D.rt v H1) : tRet te D σ H := h n H (But.refl a H) w l _ k
/-- f(drawn tuple) -/
theorem ew_callU {PU : List V → Prop} (h : EvWU a d te σ H PU) (hs : ∀ p xs H1, H1 p = some (.tup xs) → PU xs → SpV sp [.ref p] H1 v) : EvW a d (tCall sp [] E (tCons te tNil)) σ H (fun z => z = v) := fun n H1 bt w l Q q =>
  h n H1 bt w l _ fun p xs H2 hp b2 w2 h2 pu => hs p xs H2 h2 pu H2 (Ex.refl H2) Q (fun H3 e3 => q v H3 (b2.trans (But.ex e3)) (w2.ex e3) rfl) E
theorem ew_callUV {PU : List V → Prop} (h : EvWU a d1 te σ H PU) (h' : EvW a d2 ti σ H P) (hs : ∀ p xs x H1, H1 p = some (.tup xs) → PU xs → P x → SpV sp [.ref p, x] H1 v) : EvW a (d1 + d2) (tCall sp [] E (tCons te (tCons ti tNil))) σ H (fun z => z = v) := fun n H1 bt w l Q q =>
  h n H1 bt w (by omega) _ fun p xs H2 hp b2 w2 h2 pu => h' (n + d1) H2 (bt.trans b2) w2 (by omega) _ fun x H3 b3 w3 px => hs p xs x H3 (b3 _ _ (w.ne hp) h2) pu px H3 (Ex.refl H3) Q (fun H4 e4 => q v H4 ((b2.trans b3).trans (But.ex e4)) (by
    have := w3.ex e4
    rw [Nat.add_assoc] at this
    exact this) rfl) E
/-- draw > 0 or f(..) -/
theorem ew_orV {c : Bool} (h1 : EvW a d1 ta σ H (fun v => ∃ b, v = .bl b)) (h2 : EvW a d2 tb σ H (fun v => v = .bl true)) : EvW a (d1 + d2) (tOrV ta tb) σ H (fun v => v = .bl true) := fun n H1 bt w l Q q =>
  h1 n H1 bt w (by omega) _ fun v H2 b2 w2 ⟨b, e⟩ => ⟨b, e, by
    cases b with
    | true => exact iteT (q _ H2 b2 (w2.mono (by omega)) rfl)
    | false => exact iteF (h2 (n + d1) H2 (bt.trans b2) w2 (by omega) Q fun v H3 b3 w3 e => q v H3 (b2.trans b3) (by
        rw [Nat.add_assoc] at w3
        exact w3) e)⟩
theorem ew_gt {P1 P2 : Int → Prop} (h1 : EvW a d1 ta σ H (fun v => ∃ r, v = .int r ∧ P1 r)) (h2 : EvW a d2 tb σ H (fun v => ∃ r, v = .int r ∧ P2 r)) : EvW a (d1 + d2) (tOp (rI0 fun i j => .bl (decide (j < i))) ta tb) σ H (fun v => ∃ b, v = .bl b) :=
  ew_op h1 h2 fun x y ⟨i, ei, p⟩ ⟨j, ej, p'⟩ => ⟨.bl (decide (j < i)), fun H => by
    rw [ei, ej]
    exact rv_b rfl, _, rfl⟩
theorem ew_sub {P1 P2 P : Int → Prop} (h1 : EvW a d1 ta σ H (fun v => ∃ r, v = .int r ∧ P1 r)) (h2 : EvW a d2 tb σ H (fun v => ∃ r, v = .int r ∧ P2 r)) (h : ∀ x y, P1 x → P2 y → P (x - y)) :
    EvW a (d1 + d2) (tOp (rI0 fun i j => .int (i - j)) ta tb) σ H (fun v => ∃ r, v = .int r ∧ P r) :=
  ew_op h1 h2 fun x y ⟨i, ei, p⟩ ⟨j, ej, p'⟩ => ⟨.int (i - j), fun H => by
    rw [ei, ej]
    exact rv_I0, i - j, rfl, h i j p p'⟩
end
section
variable {K : PySem.W.Frag} {σ : L2.St} {H : Hp} {ta tb : TE} {D : Ends} {tz : TS}
/-- x, y = ([..], [..]) by a tuple -/
theorem q_tupLL {i j : Nat} {xs ys : List V} (h1 : EvL ta σ H xs) (h2 : ∀ p H1, H p = none → Ex H H1 → H1 p = some (.lst xs) → EvL tb σ H1 ys) (k : ∀ p q H1, H p = none → H q = none → p ≠ q → Ex H H1 → H1 p = some (.lst xs) → H1 q = some (.lst ys) → tz D ((σ.set i (some (.ref p))).set j (some (.ref q))) H1) :
    tSeq (tAsg (tTup (tCons ta (tCons tb tNil))) (gTup K 2 (gCons (gName i) (gCons (gName j) gNil)))) tz D σ H :=
  h1 H (Ex.refl H) _ fun p H2 hp e2 g2 => h2 p H2 hp e2 g2 H2 (Ex.refl H2) _ fun q H3 hq e3 g3 => ⟨sz_of (by show 2 ≤ 100000; decide), fun r hr => ⟨r, _, rfl, st_of upd_same, rfl, _, _, rfl, _, _, rfl, rfl, k p q _ hp (fresh_back e2 hq) (ne_of_none g2 hq) ((e2.trans e3).trans (Ex.new hr)) (Ex.new hr _ _ (e3 _ _ g2)) (Ex.new hr _ _ g3)⟩⟩
end
/-! ### lists picked -/
theorem given_filter (xs : List Int) (p : Int → Bool) : given xs.length (fun j => p (xs.getD j 0)) (fun j => V.int (xs.getD j 0)) = vi (xs.filter p) := by
  have e : xs = (List.range xs.length).map fun j => xs.getD j 0 := by
    refine List.ext_getElem? fun i => ?_
    rw [List.getElem?_map]
    by_cases hi : i < xs.length
    · rw [List.getElem?_range hi, List.getElem?_eq_getElem hi]
      show _ = some (xs.getD i 0)
      rw [List.getD_eq_getElem?_getD, List.getElem?_eq_getElem hi]
      rfl
    · rw [List.getElem?_eq_none (by omega), List.getElem?_eq_none (by rw [List.length_range]; omega)]
      rfl
  have e2 : xs.filter p = ((List.range xs.length).filter fun j => p (xs.getD j 0)).map fun j => xs.getD j 0 := by
    conv => lhs; rw [e]
    rw [List.filter_map]
    rfl
  unfold given vi
  rw [e2, List.map_map]
  rfl
theorem perm_sum {xs ys : List Int} (h : xs.Perm ys) : xs.sum = ys.sum := by
  induction h with
  | nil => rfl
  | cons x _ ih => rw [List.sum_cons, List.sum_cons, ih]
  | swap x y l => simp only [List.sum_cons]; omega
  | trans _ _ a b => exact a.trans b
end Bk
namespace Bk
open PySem PySem.Spec PyProof.Rows L2 Evl
/-! ### xs.count(k) -/
def rLCount : V → List V → Hp → VK → Prop := fun x vs H Q => ∃ l ns k, x = .ref l ∧ vs = [.int k] ∧ H l = some (.lst (vi ns)) ∧ Q (.int (ns.count k : Nat)) H
theorem mt_lcount {X : Cx} : MtM X "list.count" rLCount := by
  intro pins s σ H x vs v us Q I rx rv h
  obtain ⟨l, ns, k, rfl, rfl, hH, q⟩ := h
  cases rx
  obtain ⟨u, rfl, ru⟩ := rv.one
  obtain ⟨t, rfl⟩ := ru
  obtain ⟨z, its, n, r, hl, e⟩ := I.lstM hH
  exact count_list_ints ⟨_, e, rfl, n, rfl⟩ r.ints ⟨.int (ns.count k : Nat), H, I.tok _, ⟨_, rfl⟩, q⟩
section
variable {K : PySem.W.Frag} {σ : L2.St} {H : Hp} {ta tb : TE}
theorem ev_lcount {l : Addr} {ns : List Int} {k : Int} (ha : Ev ta σ H (.ref l)) (h : H l = some (.lst (vi ns))) (hb : Ev tb σ H (.int k)) : Ev (tBM K "list" rLCount ta (tCons tb tNil)) σ H (.int ((ns.count k : Nat) : Int)) := fun H1 e Q q =>
  ha H1 e _ fun H2 e2 => ⟨Or.inl ⟨rfl, _, sq_of ((e.trans e2) _ _ h)⟩, hb H2 (e.trans e2) _ fun H3 e3 => ⟨l, ns, k, rfl, rfl, ((e.trans e2).trans e3) _ _ h, q H3 (e2.trans e3)⟩⟩
variable {tb' : TE} {D : Ends}
theorem s_parVV {i j : Nat} {x y : V} (h1 : Ev ta σ H x) (h2 : Ev tb σ H y) (k : ∀ H1, Ex H H1 → D.nx ((σ.set i (some x)).set j (some y)) H1) :
    tPar i j (tCons ta (tCons tb tNil)) D σ H :=
  h1 H (Ex.refl H) _ fun H2 e2 => h2 H2 e2 _ fun H3 e3 => ⟨_, _, rfl, k H3 (e2.trans e3)⟩
end
end Bk
namespace Bk
open PySem PySem.Spec PyProof.Rows L2 Evl
section
variable {K : PySem.W.Frag} {σ : L2.St} {H : Hp} {ta tb : TE}
theorem el_listT {p : Addr} {xs : List V} (ha : Ev ta σ H (.ref p)) (h : SqT K H p xs) : EvL (tCB (rListS K) (tCons ta tNil)) σ H xs := fun H1 e Q q =>
  ha H1 e _ fun H2 e2 => ⟨p, xs, rfl, Or.inr (ex_t (e.trans e2) h), fun l hl => q l _ (fresh_back e2 hl) (e2.trans (Ex.new hl)) upd_same⟩
theorem eu_rg1 {n : Int} (ha : Ev ta σ H (.int n)) (h0 : 0 ≤ n) (hn : n ≤ 100000) : EvU (tTupRg (tRg1 ta)) σ H (rgV 0 n) := fun H1 e Q q =>
  ha H1 e _ fun H2 e2 => ⟨n, rfl, RgOk.of_le (by omega) (by omega) (by omega) h0, fun l hl => q l _ (fresh_back e2 hl) (e2.trans (Ex.new hl)) upd_same⟩
theorem ev_neg {i : Int} (ha : Ev ta σ H (.int i)) : Ev (tUn (rU fun i => .int (-i)) ta) σ H (.int (-i)) := fun H1 e Q q => ha H1 e _ fun H2 e2 => ⟨i, rfl, q H2 e2⟩
end
end Bk
namespace Bk
open PySem PySem.Spec PyProof.Rows L2 Evl
/-! ### xs[i] += e, xs[i] -= e -/
def rGetL (K : PySem.W.Frag) : V → V → Hp → VK → Prop := fun x y H Q => ∃ (p : Addr) (xs : List V) (j : Nat) (v : V), x = .ref p ∧ y = .int (j : Int) ∧ SqL K H p xs ∧ xs[j]? = some v ∧ Q v H
theorem pget_list {X : Cx} : PGet X (rGetL X.K) := by
  intro pins s σ H o i ov iv Q I ro ri h
  obtain ⟨p, xs, j, v, rfl, rfl, hq, hx, q⟩ := h
  cases ro
  obtain ⟨t, rfl⟩ := ri
  obtain ⟨its, r, pl, hz⟩ := I.list hq
  obtain ⟨w, ew, rw'⟩ := r.get hx
  have hl := (List.getElem?_eq_some_iff.mp hx).1
  have hn := line63
  exact PySem.wpAny_getItem_list pl.isList (by omega) (by omega) (by simpa using ew) ⟨v, H, I, rw', q⟩
section
variable {K : PySem.W.Frag} {σ : L2.St} {H : Hp} {ta tb te ti to' : TE} {D : Ends} {tu tz : TS} {t : TT}
theorem s_augL {l : Addr} {xs : List V} {j : Nat} {a b : Int} {f : Int → Int → Int} (ho : Ev ta σ H (.ref l)) (hi : Ev ti σ H (.int (j : Int))) (hl : H l = some (.lst xs)) (hx : xs[j]? = some (.int a)) (he : Ev te σ H (.int b)) (k : ∀ H1, Ex H H1 → D.nx σ (upd H1 l (.lst (xs.set j (.int (f a b)))))) :
    tAugS ta ti te (rGetL K) (ipI f) rSetL D σ H := ho H (Ex.refl H) _ fun H1 e1 => hi H1 e1 _ fun H2 e2 =>
  ⟨l, xs, j, _, rfl, rfl, sq_of ((e1.trans e2) _ _ hl), hx, he H2 (e1.trans e2) _ fun H3 e3 => ⟨a, b, rfl, rfl, l, xs, (j : Int), j, rfl, rfl, ((e1.trans e2).trans e3) _ _ hl, ixN_nat (List.getElem?_eq_some_iff.mp hx).1, k H3 ((e1.trans e2).trans e3)⟩⟩
/-! ### range(a, b, c) upwards, from anywhere -/
theorem RgC.upG {lo j c : Int} (l0 : 0 ≤ lo) (l1 : lo ≤ 100000) (h0 : 0 ≤ j) (h1 : j ≤ 100000) (c0 : 0 < c) (c1 : c ≤ 100000) : ∃ n : Nat, RgC lo j c n ∧ (∀ k : Nat, k < n → lo + (k : Int) * c < j) ∧ j ≤ lo + (n : Int) * c := by
  have hs : Builtin.Range.rangeSize lo j c = (if lo < j then (j - lo - 1) / c + 1 else 0) := by
    unfold Builtin.Range.rangeSize
    rw [if_pos c0]
  have hd0 : lo < j → 0 ≤ (j - lo - 1) / c := fun h => Int.ediv_nonneg (by omega) (by omega)
  have hd1 : lo < j → (j - lo - 1) / c ≤ j - lo - 1 := fun h => Int.ediv_le_self _ (by omega)
  refine ⟨(if lo < j then (j - lo - 1) / c + 1 else 0).toNat, ⟨by omega, by omega, ?_, ?_⟩, ?_, ?_⟩
  · unfold Builtin.Range.small
    rw [hs]
    simp only [Builtin.Range.rangeFitsLong, Bool.and_eq_true, Bool.or_eq_true, decide_eq_true_eq, beq_iff_eq, if_pos c0]
    by_cases hj : lo < j
    · have := hd0 hj
      have := hd1 hj
      rw [if_pos hj]
      omega
    · rw [if_neg hj]
      omega
  · rw [hs, Int.toNat_of_nonneg]
    split
    · have := hd0 (by assumption)
      omega
    · omega
  · intro k hk
    by_cases hj : lo < j
    · rw [if_pos hj] at hk
      have h2 : (k : Int) ≤ (j - lo - 1) / c := by
        have := hd0 hj
        omega
      have := (Int.le_ediv_iff_mul_le c0).mp h2
      omega
    · rw [if_neg hj] at hk
      exact absurd hk (Nat.not_lt_zero _)
  · by_cases hj : lo < j
    · rw [if_pos hj]
      have := hd0 hj
      rw [Int.toNat_of_nonneg (by omega)]
      have := Int.lt_ediv_add_one_mul_self (j - lo - 1) c0
      omega
    · rw [if_neg hj]
      show j ≤ lo + (0 : Int) * c
      omega
theorem s_forR3G {ta : TA} {i : Nat} {lo j c : Int} (h : EvA ta σ H [.int lo, .int j, .int c]) (l0 : 0 ≤ lo) (l1 : lo ≤ 100000) (h0 : 0 ≤ j) (h1 : j ≤ 100000) (c0 : 0 < c) (c1 : c ≤ 100000) (Pv : Nat → L2.St → Hp → Prop) (hp0 : ∀ H1, Ex H H1 → Pv 0 σ H1)
    (hs : ∀ (k : Nat) σ' H', lo + (k : Int) * c < j → Pv k σ' H' → tu { D with nx := Pv (k + 1), ct := Pv (k + 1), bk := D.nx } (σ'.set i (some (.int (lo + (k : Int) * c)))) H') (hd : ∀ (k : Nat) σ' H', j ≤ lo + (k : Int) * c → Pv k σ' H' → D.nx σ' H') : tFor (iRng3 ta) (gName i) tu D σ H := by
  obtain ⟨n, hr, hn, he⟩ := RgC.upG l0 l1 h0 h1 c0 c1
  exact h H (Ex.refl H) _ fun H1 e1 => ⟨lo, j, c, n, rfl, hr, for_rangeC (lo := lo) (c := c) (n := n) Pv (hp0 H1 e1) (fun k σ' H' hk p => hs k σ' H' (hn k hk) p) fun σ' H' p => hd n σ' H' he p⟩
theorem q_forNEnC {xs : List V} {tl : TE} {c : Int} {i j : Nat} (h : EvL tl σ H xs) (Pv : Addr → Nat → L2.St → Hp → Prop) (h0 : ∀ p H1, H p = none → Ex H H1 → H1 p = some (.lst xs) → Pv p 0 σ H1) (hl : ∀ p n σ' H', n ≤ xs.length → Pv p n σ' H' → SqL K H' p xs)
    (hs : ∀ p n x σ' H', xs[n]? = some x → Pv p n σ' H' → ∀ H1, Ex H' H1 → tu { D with nx := Pv p (n + 1), ct := Pv p (n + 1), bk := tz D } ((σ'.set i (some (.int (c + (n : Nat))))).set j (some x)) H1) (hd : ∀ p σ' H', Pv p xs.length σ' H' → tz D σ' H') :
    tSeq (tFor (iEnumC K (tCons tl tNil) c) (g2 K i j) tu) tz D σ H := s_forNEnC (D := { D with nx := tz D }) h Pv h0 hl hs hd
theorem rv_notN {x : V} : RV (fun x y H Q => y = V.non ∧ Q (V.bl (!decide (x = V.non))) H) x .non H (.bl (!decide (x = .non))) := fun H1 e Q q => ⟨rfl, q H1 (Ex.refl H1)⟩
theorem rv_isN {x : V} : RV (fun x y H Q => y = V.non ∧ Q (V.bl (decide (x = V.non))) H) x .non H (.bl (decide (x = .non))) := fun H1 e Q q => ⟨rfl, q H1 (Ex.refl H1)⟩
/-! ### a comprehension whose items are drawn -/
theorem ewl_lcR1 {a : Addr} {d1 d2 : Nat} {N : Nat} {P : Int → Prop} {PE : V → Prop} {j : Nat} {vs : List Nat} (h : EvW a d1 te σ H (fun v => ∃ r, v = .int r ∧ P r)) (hP : ∀ r, P r → 0 ≤ r ∧ r ≤ N) (hN : N ≤ 40000) (hw : ∀ x, wipe ((wipe σ vs).set j (some x)) vs = wipe σ vs)
    (he : ∀ (i : Nat) H1, But a H H1 → EvW a d2 to' ((wipe σ vs).set j (some (.int (i : Int)))) H1 PE) :
    EvWL a (d1 + N * d2) (tLc (iRng1 (tCons te tNil)) (gName j) tYes to' vs) σ H (fun xs => ∃ r, P r ∧ (xs.length : Int) = r ∧ ∀ x ∈ xs, PE x) := fun n H0 b w l Q q =>
  h n H0 b w (by omega) _ fun v H1 b1 w1 ⟨r, er, pr⟩ => by
    subst er
    obtain ⟨r0, r1⟩ := hP r pr
    obtain ⟨m, rfl⟩ : ∃ m : Nat, r = m := ⟨r.toNat, by omega⟩
    have mle : m * d2 ≤ N * d2 := Nat.mul_le_mul_right _ (by omega)
    refine ⟨(m : Int), rfl, by omega, by omega, fun Dl hD => ?_⟩
    have nD : Dl ≠ a := w1.ne hD
    refine lc_range (lo := 0) (n := (m : Int).toNat) (fun i H' => But a H1 H' ∧ Well H' a (n + d1 + i * d2) ∧ ∃ xs, H' Dl = some (.lst xs) ∧ xs.length = i ∧ ∀ x ∈ xs, PE x) ⟨But.new hD, ?_, [], upd_same, rfl, fun x hx => nomatch hx⟩ (fun i H' hi p => ?_) (fun H' p => ?_)
    · rw [Nat.zero_mul, Nat.add_zero]
      exact w1.ex (Ex.new hD)
    · have e0 : (0 : Int) + (i : Int) = (i : Int) := Int.zero_add _
      show wipe ((wipe σ vs).set j (some (.int ((0 : Int) + (i : Int))))) vs = wipe σ vs ∧ tYes ((wipe σ vs).set j (some (.int ((0 : Int) + (i : Int))))) H' fun b H3 => if b = true then to' ((wipe σ vs).set j (some (.int ((0 : Int) + (i : Int))))) H3 fun y H4 => ∃ acc, H4 Dl = some (.lst acc) ∧ acc.length < sizeLine ∧ _ else _
      rw [e0]
      obtain ⟨p1, p2, xs, p3, p4, p5⟩ := p
      have hi' : i < m := by omega
      have ile : i * d2 + d2 ≤ m * d2 := by
        rw [← Nat.succ_mul]
        exact Nat.mul_le_mul_right _ hi'
      refine ⟨hw _, et_yes H' (Ex.refl H') _ fun H3 e3 => ?_⟩
      refine iteT (he i H3 (((b.trans b1).trans p1).trans (But.ex e3)) (n + d1 + i * d2) H3 (But.refl a H3) (p2.ex e3) (by omega) _ fun y H4 b4 w4 py => ?_)
      refine ⟨xs, b4 _ _ nD (e3 _ _ p3), sz_lt (by omega), ((p1.trans (But.ex e3)).trans b4).own hD, ?_, xs ++ [y], upd_same, by rw [List.length_append, p4]; rfl, fun x hx => ?_⟩
      · obtain ⟨x, y', c, q1, q2⟩ := w4
        refine ⟨x, y', c, by rw [upd_ne (Ne.symm nD)]; exact q1, ?_⟩
        rw [Nat.succ_mul]
        obtain ⟨q2, q3, q4, q5⟩ := q2
        exact ⟨q2, q3, q4, by omega⟩
      · rcases List.mem_append.mp hx with hx | hx
        · exact p5 x hx
        · rw [List.mem_singleton.mp hx]
          exact py
    · obtain ⟨p1, p2, xs, p3, p4, p5⟩ := p
      rw [Int.toNat_natCast] at p2 p4
      exact q Dl xs H' (but_free b1 w1 hD) (b1.trans p1) (p2.mono (by omega)) p3 ⟨(m : Int), pr, by rw [p4], p5⟩
end
section
variable {K : PySem.W.Frag} {σ : L2.St} {H : Hp} {ta tb te : TE} {a : Addr} {d1 d2 n : Nat} {D : Ends} {tz : TS}
/-- x, y = (drawn list, drawn list), by a tuple -/
theorem qw_tupLL {i j : Nat} {PA PB : List V → Prop} (h1 : EvWL a d1 ta σ H PA) (h2 : EvWL a d2 tb σ H PB) (w : Well H a n) (hl : n + (d1 + d2) ≤ 2 ^ 50)
    (k : ∀ p q xs ys H1, H p = none → H q = none → But a H H1 → Well H1 a (n + (d1 + d2)) → H1 p = some (.lst xs) → H1 q = some (.lst ys) → PA xs → PB ys → tz D ((σ.set i (some (.ref p))).set j (some (.ref q))) H1) :
    tSeq (tAsg (tTup (tCons ta (tCons tb tNil))) (gTup K 2 (gCons (gName i) (gCons (gName j) gNil)))) tz D σ H :=
  h1 n H (But.refl a H) w (by omega) _ fun p xs H2 hp b2 w2 g2 pa => h2 (n + d1) H2 b2 w2 (by omega) _ fun q ys H3 hq b3 w3 g3 pb => ⟨sz_of (by show 2 ≤ 100000; decide), fun r hr => ⟨r, _, rfl, st_of upd_same, rfl, _, _, rfl, _, _, rfl, rfl, by
    refine k p q xs ys _ hp (but_free b2 w2 hq) ((b2.trans b3).trans (But.new hr)) ?_ (Ex.new hr _ _ (b3 _ _ (w.ne hp) g2)) (Ex.new hr _ _ g3) pa pb
    rw [← Nat.add_assoc]
    exact w3.ex (Ex.new hr)⟩⟩
/-- x, y = (drawn, drawn), by a tuple -/
theorem qw_tupVV {i j : Nat} {PA PB : V → Prop} (h1 : EvW a d1 ta σ H PA) (h2 : EvW a d2 tb σ H PB) (w : Well H a n) (hl : n + (d1 + d2) ≤ 2 ^ 50)
    (k : ∀ x y H1, But a H H1 → Well H1 a (n + (d1 + d2)) → PA x → PB y → tz D ((σ.set i (some x)).set j (some y)) H1) :
    tSeq (tAsg (tTup (tCons ta (tCons tb tNil))) (gTup K 2 (gCons (gName i) (gCons (gName j) gNil)))) tz D σ H :=
  h1 n H (But.refl a H) w (by omega) _ fun x H2 b2 w2 pa => h2 (n + d1) H2 b2 w2 (by omega) _ fun y H3 b3 w3 pb => ⟨sz_of (by show 2 ≤ 100000; decide), fun r hr => ⟨r, _, rfl, st_of upd_same, rfl, _, _, rfl, _, _, rfl, rfl, by
    refine k x y _ ((b2.trans b3).trans (But.new hr)) ?_ pa pb
    rw [← Nat.add_assoc]
    exact w3.ex (Ex.new hr)⟩⟩
theorem el_callVL {sp : Sp} {x : V} {xs ys : List V} {E : XK} (h : Ev ta σ H x) (h2 : EvL tb σ H xs) (hs : ∀ p H1, Ex H H1 → H1 p = some (.lst xs) → SpL sp [x, .ref p] H1 ys) : EvL (tCall sp [] E (tCons ta (tCons tb tNil))) σ H ys := fun H1 e Q q =>
  h H1 e _ fun H2 e2 => h2 H2 (e.trans e2) _ fun p H3 hp e3 g3 => hs p H3 ((e.trans e2).trans e3) g3 H3 (Ex.refl H3) Q (fun r H4 hr e4 h4 => q r H4 (fresh_back (e2.trans e3) hr) ((e2.trans e3).trans e4) h4) E
theorem el_callLL {sp : Sp} {xs ys zs : List V} {E : XK} (h : EvL ta σ H xs) (h2 : EvL tb σ H ys) (hs : ∀ p q H1, Ex H H1 → H1 p = some (.lst xs) → H1 q = some (.lst ys) → SpL sp [.ref p, .ref q] H1 zs) : EvL (tCall sp [] E (tCons ta (tCons tb tNil))) σ H zs := fun H1 e Q q =>
  h H1 e _ fun p H2 hp e2 g2 => h2 H2 (e.trans e2) _ fun p' H3 hp' e3 g3 => hs p p' H3 ((e.trans e2).trans e3) (e3 _ _ g2) g3 H3 (Ex.refl H3) Q (fun r H4 hr e4 h4 => q r H4 (fresh_back (e2.trans e3) hr) ((e2.trans e3).trans e4) h4) E
theorem ew_mul {P1 P2 P : Int → Prop} (h1 : EvW a d1 ta σ H (fun v => ∃ r, v = .int r ∧ P1 r)) (h2 : EvW a d2 tb σ H (fun v => ∃ r, v = .int r ∧ P2 r)) (hc : ∀ x y, P1 x → P2 y → CMul x y) (h : ∀ x y, P1 x → P2 y → P (x * y)) :
    EvW a (d1 + d2) (tOp (rI CMul fun i j => .int (i * j)) ta tb) σ H (fun v => ∃ r, v = .int r ∧ P r) :=
  ew_op h1 h2 fun x y ⟨i, ei, p⟩ ⟨j, ej, p'⟩ => ⟨.int (i * j), fun H => by
    rw [ei, ej]
    exact rv_I (hc i j p p'), i * j, rfl, h i j p p'⟩
theorem ev_intB {b : Bool} (ha : Ev ta σ H (.bl b)) : Ev (tCB (fun xs H Q => (∃ i, xs = [.int i] ∧ Q (.int i) H) ∨ ∃ k, xs = [.bl k] ∧ Q (.int (if k then 1 else 0)) H) (tCons ta tNil)) σ H (.int (if b then 1 else 0)) := fun H1 e Q q =>
  ha H1 e _ fun H2 e2 => .inr ⟨b, rfl, q H2 e2⟩
end
theorem vi_of {P : Int → Prop} : ∀ {xs : List V}, (∀ x ∈ xs, ∃ z, x = V.int z ∧ P z) → ∃ cs, xs = vi cs ∧ ∀ z ∈ cs, P z
  | [], _ => ⟨[], rfl, fun _ h => nomatch h⟩
  | x :: xs, h => by
    obtain ⟨z, rfl, pz⟩ := h x List.mem_cons_self
    obtain ⟨cs, rfl, pc⟩ := vi_of fun y hy => h y (List.mem_cons_of_mem _ hy)
    refine ⟨z :: cs, rfl, fun y hy => ?_⟩
    rcases List.mem_cons.mp hy with e | hy
    · rw [e]
      exact pz
    · exact pc y hy
end Bk
namespace Bk
open PySem PySem.Spec PyProof.Rows L2 Evl
/-! ### xs[lo::step] -/
def stepV (xs : List V) (lo st : Option Int) : List V := (sliceRange (sliceBounds lo none st xs.length).1 (sliceBounds lo none st xs.length).2.1 (sliceBounds lo none st xs.length).2.2).filterMap fun i => xs[i]?
def rSlS (K : PySem.W.Frag) : V → Option Int → Option Int → Hp → VK → Prop := fun x lo st H Q => ∃ a xs, x = .ref a ∧ SqL K H a xs ∧ st ≠ some 0 ∧ ∀ p, H p = none → Q (.ref p) (upd H p (.lst (stepV xs lo st)))
def tSlS (r : V → Option Int → Option Int → Hp → VK → Prop) (te : TE) (tl ts : TO) : TE := fun σ H Q => te σ H fun x H1 => tl σ H1 fun l H2 => ts σ H2 fun c H3 => r x l c H3 Q
theorem pe_sliceS {X : Cx} {e : Expr} {te : TE} {lo : Option Expr} {st : Expr} {tl ts : TO} {pos p2 : Pos} (he : PE X e te) (hl : PO X lo tl) (hs : PO X (some st) ts) : PE X (.Subscript e (.Slice lo none (some st) p2) pos) (tSlS (rSlS X.K) te tl ts) := by
  refine ⟨fun pins s σ H Q I h => ?_⟩
  refine Subscript_ (thn (he.run pins s σ H _ I h) fun v s1 ⟨x, H1, I1, r1, q1⟩ => ?_)
  refine wpAny_Slice (thn (hl.run pins s1 σ H1 _ I1 q1) fun vl s2 ⟨l, H2, I2, pl, q2⟩ => ?_)
  rw [evalPart_none]
  refine wpAny_pure ?_
  refine thn (hs.run pins s2 σ H2 _ I2 q2) fun vs s3 ⟨c, H3, I3, ps, q3⟩ => ?_
  obtain ⟨a, xs, rfl, hx, h0, q⟩ := q3
  cases r1
  have I4 : Inv X pins σ H3 { s3 with heap := s3.heap.push { cls := .type "slice", data := .fields #[vl, .none, vs] } } := I3.kept (t' := s3.toks) fun b ob q => Heap.get?_push_of_some _ q
  obtain ⟨its, r, ht, hz⟩ := I4.list hx
  have hlen := r.length
  show wpAny (model X.prog X.w) X.A (subscriptTail e (.Slice lo none (some st) p2) (.ref a) (.ref s3.heap.objs.size)) (EP X pins σ Q) X.xe { s3 with heap := s3.heap.push { cls := .type "slice", data := .fields #[vl, .none, vs] } }
  refine tail_any (ops := [.ref a, .ref s3.heap.objs.size]) ht.isList.typeIs slot_list_getitem.lookup ?_ (by with_unfolding_all rfl)
  refine wpAny_getItem_list_slice ht.isList (Heap.IsSliceOf.new ..) pl .none ps h0 ?_ (by rw [List.size_toArray] <;> omega)
  have hv : Vals (stepV xs l c) ((sliceRange (sliceBounds l none c its.length).1 (sliceBounds l none c its.length).2.1 (sliceBounds l none c its.length).2.2).filterMap fun i => its[i]?) := by
    unfold stepV
    rw [hlen]
    exact vals_pick r _
  have hle := slicePick_size_le its.toArray l none c
  have hp : slicePick its.toArray l none c = ((sliceRange (sliceBounds l none c its.length).1 (sliceBounds l none c its.length).2.1 (sliceBounds l none c its.length).2.2).filterMap fun i => its[i]?).toArray := by
    unfold slicePick
    simp only [List.size_toArray, List.getElem?_toArray]
  rw [hp, List.size_toArray] at hle
  rw [hp]
  refine ⟨.ref _, _, I4.laid (t' := s3.toks) (o := .lst (stepV xs l c)) (fun b ob q => Heap.get?_push_of_some _ q) (Nat.le_refl _) ?_, rfl, q _ (I4.hok.fresh (Nat.le_refl _))⟩
  exact ⟨by rw [hv.length]; rw [List.size_toArray] at hle; omega, _, 0, hv, Heap.get?_push_size _ rfl⟩
theorem filterMap_all {α β : Type} {f : α → Option β} {g : α → β} : ∀ {l : List α}, (∀ i ∈ l, f i = some (g i)) → l.filterMap f = l.map g
  | [], _ => rfl
  | a :: l, h => by
    rw [List.filterMap_cons_some (h a List.mem_cons_self), filterMap_all fun i hi => h i (List.mem_cons_of_mem _ hi), List.map_cons]
theorem step_tab {xs : List Int} {c : Nat} (h0 : 1 ≤ c) (h1 : c ≤ xs.length) : stepV (vi xs) (some ((c : Int) - 1)) (some (c : Int)) = vi ((List.range (xs.length / c)).map fun i => xs.getD ((i + 1) * c - 1) 0) := by
  have eb : sliceBounds (some ((c : Int) - 1)) none (some (c : Int)) (vi xs).length = ((c : Int) - 1, (xs.length : Int), (c : Int)) := by
    rw [List.length_map]
    unfold sliceBounds
    simp only [Option.getD_some, show ¬ ((c : Int) - 1 < 0) by omega, show ((c : Int) > 0) by omega, if_true, if_false]
    rw [show max 0 (min ((c : Int) - 1) (xs.length : Int)) = (c : Int) - 1 by omega]
  unfold stepV
  rw [eb]
  show (sliceRange ((c : Int) - 1) (xs.length : Int) (c : Int)).filterMap _ = _
  have er : sliceRange ((c : Int) - 1) (xs.length : Int) (c : Int) = (List.range (xs.length / c)).map fun i => (i + 1) * c - 1 := by
    unfold sliceRange
    simp only [if_pos (show (c : Int) > 0 by omega), if_pos (show (c : Int) - 1 < (xs.length : Int) by omega)]
    rw [show ((xs.length : Int) - ((c : Int) - 1) + (c : Int) - 1) = (xs.length : Int) by omega, ← Int.natCast_ediv, Int.toNat_natCast]
    refine List.map_congr_left fun i _ => ?_
    have : ((c : Int) - 1 + (c : Int) * (i : Int)) = (((i + 1) * c : Nat) : Int) - 1 := by
      rw [Int.natCast_mul, Int.natCast_add, Int.add_mul, Int.mul_comm (c : Int)]
      omega
    show ((c : Int) - 1 + (c : Int) * (i : Int)).toNat = _
    rw [this]
    generalize (i + 1) * c = M
    omega
  rw [er, List.filterMap_map]
  unfold vi
  rw [List.map_map]
  refine filterMap_all fun i hi => ?_
  have hi := List.mem_range.mp hi
  have hle : (i + 1) * c ≤ xs.length := Nat.le_trans (Nat.mul_le_mul_right _ hi) (Nat.div_mul_le_self _ _)
  have hpos : 0 < (i + 1) * c := Nat.mul_pos (Nat.succ_pos i) (by omega)
  have hlt : (i + 1) * c - 1 < xs.length := by omega
  show (xs.map V.int)[(i + 1) * c - 1]? = some (V.int (xs.getD ((i + 1) * c - 1) 0))
  rw [List.getElem?_map, List.getD_eq_getElem?_getD, List.getElem?_eq_getElem hlt]
  rfl
section
variable {K : PySem.W.Frag} {σ : L2.St} {H : Hp} {ta tb te : TE}
theorem el_slS {a : Addr} {xs : List V} {tl ts : TO} {lo st : Option Int} (h : Ev te σ H (.ref a)) (h1 : EvO tl σ H lo) (h2 : EvO ts σ H st) (hx : SqL K H a xs) (h0 : st ≠ some 0) : EvL (tSlS (rSlS K) te tl ts) σ H (stepV xs lo st) := fun H1 e _ q =>
  h H1 e _ fun H2 e2 => h1 H2 (e.trans e2) _ fun H3 e3 => h2 H3 ((e.trans e2).trans e3) _ fun H4 e4 =>
    ⟨a, xs, rfl, ex_l (((e.trans e2).trans e3).trans e4) hx, h0, fun p hp => q p _ (fresh_back ((e2.trans e3).trans e4) hp) (((e2.trans e3).trans e4).trans (Ex.new hp)) upd_same⟩
end
end Bk
namespace Bk
open PySem PySem.Spec PyProof.Rows L2 Evl
/-! ### tuples compared -/
theorem rv_neT {K : PySem.W.Frag} {H : Hp} {p q : Addr} {ns ms : List Int} (h : SqT K H p (vi ns)) (h' : SqT K H q (vi ms)) : RV (rNeD K) (.ref p) (.ref q) H (.bl (!decide (ns = ms))) := fun H1 e Q k =>
  ⟨_, _, dp_tup (ex_t e h), dp_tup (ex_t e h'), shaped_t ns, shaped_t ms, by rw [eqv_t]; exact k H1 (Ex.refl H1)⟩
section
variable {K : PySem.W.Frag} {σ : L2.St} {H : Hp} {ta tb te : TE}
theorem ev_neUU {ns ms : List Int} (ha : EvU ta σ H (vi ns)) (hb : EvU tb σ H (vi ms)) : Ev (tOp (rNeD K) ta tb) σ H (.bl (!decide (ns = ms))) := fun H1 e Q k =>
  ha H1 e _ fun p H2 hp e2 h2 => hb H2 (e.trans e2) _ fun q H3 hq e3 h3 => rv_neT (st_of (e3 _ _ h2)) (st_of h3) H3 (Ex.refl H3) Q fun H4 e4 => k H4 ((e2.trans e3).trans e4)
theorem ev_neUT {p : Addr} {ns ms : List Int} (ha : EvU ta σ H (vi ns)) (hb : Ev tb σ H (.ref p)) (h : SqT K H p (vi ms)) : Ev (tOp (rNeD K) ta tb) σ H (.bl (!decide (ns = ms))) := fun H1 e Q k =>
  ha H1 e _ fun p H2 hp e2 h2 => hb H2 (e.trans e2) _ fun H3 e3 => rv_neT (st_of (e3 _ _ h2)) (ex_t ((e.trans e2).trans e3) h) H3 (Ex.refl H3) Q fun H4 e4 => k H4 ((e2.trans e3).trans e4)
end
section
variable {K : PySem.W.Frag} {σ : L2.St} {H : Hp} {ta tb te : TE} {a : Addr} {d1 d2 n : Nat} {D : Ends} {tz : TS}
theorem qw_tupUU {i j : Nat} {PA PB : List V → Prop} (h1 : EvWU a d1 ta σ H PA) (h2 : EvWU a d2 tb σ H PB) (w : Well H a n) (hl : n + (d1 + d2) ≤ 2 ^ 50)
    (k : ∀ p q xs ys H1, H p = none → H q = none → But a H H1 → Well H1 a (n + (d1 + d2)) → H1 p = some (.tup xs) → H1 q = some (.tup ys) → PA xs → PB ys → tz D ((σ.set i (some (.ref p))).set j (some (.ref q))) H1) :
    tSeq (tAsg (tTup (tCons ta (tCons tb tNil))) (gTup K 2 (gCons (gName i) (gCons (gName j) gNil)))) tz D σ H :=
  h1 n H (But.refl a H) w (by omega) _ fun p xs H2 hp b2 w2 g2 pa => h2 (n + d1) H2 b2 w2 (by omega) _ fun q ys H3 hq b3 w3 g3 pb => ⟨sz_of (by show 2 ≤ 100000; decide), fun r hr => ⟨r, _, rfl, st_of upd_same, rfl, _, _, rfl, _, _, rfl, rfl, by
    refine k p q xs ys _ hp (but_free b2 w2 hq) ((b2.trans b3).trans (But.new hr)) ?_ (Ex.new hr _ _ (b3 _ _ (w.ne hp) g2)) (Ex.new hr _ _ g3) pa pb
    rw [← Nat.add_assoc]
    exact w3.ex (Ex.new hr)⟩⟩
theorem qw_parVV {i j : Nat} {PA PB : V → Prop} (h1 : EvW a d1 ta σ H PA) (h2 : EvW a d2 tb σ H PB) (w : Well H a n) (hl : n + (d1 + d2) ≤ 2 ^ 50)
    (k : ∀ x y H1, But a H H1 → Well H1 a (n + (d1 + d2)) → PA x → PB y → tz D ((σ.set i (some x)).set j (some y)) H1) :
    tSeq (tPar i j (tCons ta (tCons tb tNil))) tz D σ H :=
  h1 n H (But.refl a H) w (by omega) _ fun x H2 b2 w2 pa => h2 (n + d1) H2 b2 w2 (by omega) _ fun y H3 b3 w3 pb => ⟨_, _, rfl, k x y _ (b2.trans b3) (by
    rw [← Nat.add_assoc]
    exact w3) pa pb⟩
theorem el_callUV {sp : Sp} {xs ys : List V} {y : V} {E : XK} (h : EvU ta σ H xs) (h2 : ∀ p H1, Ex H H1 → H1 p = some (.tup xs) → Ev tb σ H1 y) (hs : ∀ p H1, Ex H H1 → H1 p = some (.tup xs) → SpL sp [.ref p, y] H1 ys) : EvL (tCall sp [] E (tCons ta (tCons tb tNil))) σ H ys := fun H1 e Q q =>
  h H1 e _ fun p H2 hp e2 g2 => h2 p H2 (e.trans e2) g2 H2 (Ex.refl H2) _ fun H3 e3 => hs p H3 ((e.trans e2).trans e3) (e3 _ _ g2) H3 (Ex.refl H3) Q (fun r H4 hr e4 h4 => q r H4 (fresh_back (e2.trans e3) hr) ((e2.trans e3).trans e4) h4) E
end
section
variable {X : Cx} {K : PySem.W.Frag} {o e : Expr} {es : List Expr} {to : TE} {t : TA} {name : Str} {apos cpos : Pos} {T id : String} {r : V → List V → Hp → VK → Prop}
theorem pe_bmK (h : X.K = K) (pa : PlainAttrs T) (slot : Slot T name id) (hty : typeOf (.builtin id) = pure (.type "method_descriptor")) (hm : MtR X id r) (ho : PE X o to) (ha : PA X (e :: es) t)
    (hbase : attributeBase o name X.env (eval o X.env) = eval o X.env := by rfl)
    (hfew : ((backTo cpos (starEach (e :: es) X.env)).all (fun x => !x.1) && (backToKw cpos (keywordEach [] X.env)).all (fun x => x.1.isSome)
      && decide ((e :: es).length + ([] : List Keyword).length + (if ([] : List Keyword).isEmpty then 0 else 1) < 30)) = true := by rfl)
    (hline : (apos.endLine == cpos.line) = true := by rfl) (hs : starEach (e :: es) X.env = (false, eval e X.env) :: starEach es X.env := by rfl) (hplain : (backTo cpos (starEach es X.env)).any (·.1) = false := by rfl) :
    PE X (.Call (.Attribute o name apos) (e :: es) [] cpos) (tBM K T r to t) := by
  subst h
  exact pe_bm pa slot hty hm ho ha hbase hfew hline hs hplain
end
end Bk
namespace Bk
open PySem PySem.Spec PyProof.Rows L2 Evl
section
variable {K : PySem.W.Frag} {σ : L2.St} {H : Hp} {tl : TE} {a : Addr} {d : Nat} {sp : Sp} {E : XK}
/-- f(drawn list), a new list -/
theorem wl_callL {PA PB : List V → Prop} (h : EvWL a d tl σ H PA) (hs : ∀ p xs H1, H1 p = some (.lst xs) → PA xs → ∃ ys, SpL sp [.ref p] H1 ys ∧ PB ys) : EvWL a d (tCall sp [] E (tCons tl tNil)) σ H PB := fun n H1 b w l Q q =>
  h n H1 b w l _ fun p xs H2 hp b2 w2 h2 pa => by
    obtain ⟨ys, hy, pb⟩ := hs p xs H2 h2 pa
    exact hy H2 (Ex.refl H2) Q (fun r H3 hr e3 h3 => q r ys H3 (but_free b2 w2 hr) (b2.trans (But.ex e3)) (w2.ex e3) h3 pb) E
theorem sw_asgL' {D : Ends} {n : Nat} {i : Nat} {P : List V → Prop} {te : TE} (h : EvWL a d te σ H P) (w : Well H a n) (l : n + d ≤ 2 ^ 50) (k : ∀ p xs H1, H p = none → But a H H1 → Well H1 a (n + d) → H1 p = some (.lst xs) → P xs → D.nx (σ.set i (some (.ref p))) H1) : tAsg te (gName i) D σ H :=
  h n H (But.refl a H) w l _ fun p xs H2 hp b2 w2 h2 pa => k p xs H2 hp b2 w2 h2 pa
end
theorem ewl_mono {σ : L2.St} {H : Hp} {te : TE} {a : Addr} {d : Nat} {P P1 : List V → Prop} (x : EvWL a d te σ H P) (h : ∀ v, P v → P1 v) : EvWL a d te σ H P1 := fun n H1 b w l Q q => x n H1 b w l Q fun p v H2 hp b2 w2 g2 k => q p v H2 hp b2 w2 g2 (h v k)
/-- xs[j] = drawn -/
theorem sw_setL {K : PySem.W.Frag} {σ : L2.St} {H : Hp} {te ta tb : TE} {a : Addr} {d n : Nat} {D : Ends} {P : V → Prop} {l : Addr} {xs : List V} {j : Nat} (hl : H l = some (.lst xs)) (nl : l ≠ a) (h : EvW a d te σ H P) (ho : ∀ H1, Ev ta σ H1 (.ref l)) (hi : ∀ H1, Ev tb σ H1 (.int (j : Int))) (hj : j < xs.length) (w : Well H a n) (hn : n + d ≤ 2 ^ 50)
    (k : ∀ v H1, But a H H1 → Well H1 a (n + d) → P v → D.nx σ (upd H1 l (.lst (xs.set j v)))) : tAsg te (gSub ta tb rSetL) D σ H :=
  h n H (But.refl a H) w hn _ fun v H1 b1 w1 pv => ho H1 H1 (Ex.refl H1) _ fun H2 e2 => hi H2 H2 (Ex.refl H2) _ fun H3 e3 =>
    ⟨l, xs, (j : Int), j, rfl, rfl, (e2.trans e3) _ _ (b1 _ _ nl hl), ixN_nat hj, k v H3 (b1.trans (But.ex (e2.trans e3))) (w1.ex (e2.trans e3)) pv⟩
section
variable {K : PySem.W.Frag} {σ : L2.St} {H : Hp} {ta tb te : TE} {x z : V}
/-- a new list of which something is known -/
def EvLX (te : TE) (σ : L2.St) (H : Hp) (P : List V → Prop) : Prop := ∀ H1, Ex H H1 → ∀ Q : VK, (∀ p xs H2, H1 p = none → Ex H1 H2 → H2 p = some (.lst xs) → P xs → Q (.ref p) H2) → te σ H1 Q
def SpLX (sp : Sp) (vs : List V) (H : Hp) (P : List V → Prop) : Prop := ∀ H1, Ex H H1 → ∀ Q : VK, (∀ p xs H2, H1 p = none → Ex H1 H2 → H2 p = some (.lst xs) → P xs → Q (.ref p) H2) → ∀ E : XK, sp vs H1 Q E
theorem elx_call {sp : Sp} {vs : List V} {E : XK} {t : TA} {P : List V → Prop} (h : EvA t σ H vs) (hs : SpLX sp (vs ++ []) H P) : EvLX (tCall sp [] E t) σ H P := fun H1 e Q q =>
  h H1 e _ fun H2 e2 => hs H2 (e.trans e2) Q (fun p xs H3 hp e3 h3 k => q p xs H3 (fresh_back e2 hp) (e2.trans e3) h3 k) E
theorem elx_callK {sp : Sp} {gV : List V → List V → List V} {vs zs : List V} {E : XK} {t tk : TA} {P : List V → Prop} (h : EvA t σ H vs) (h' : EvA tk σ H zs) (hs : SpLX sp (gV vs zs) H P) : EvLX (tCallK sp gV E t tk) σ H P := fun H1 e Q q =>
  h H1 e _ fun H2 e2 => h' H2 (e.trans e2) _ fun H3 e3 => hs H3 ((e.trans e2).trans e3) Q (fun p xs H4 hp e4 h4 k => q p xs H4 (fresh_back (e2.trans e3) hp) ((e2.trans e3).trans e4) h4 k) E
theorem ev_callVLX {sp : Sp} {E : XK} {P : List V → Prop} (h : Ev ta σ H x) (h2 : EvLX tb σ H P) (hs : ∀ p xs H1, Ex H H1 → H1 p = some (.lst xs) → P xs → SpV sp [x, .ref p] H1 z) : Ev (tCall sp [] E (tCons ta (tCons tb tNil))) σ H z := fun H1 e Q q =>
  h H1 e _ fun H2 e2 => h2 H2 (e.trans e2) _ fun p xs H3 hp e3 g3 k => hs p xs H3 ((e.trans e2).trans e3) g3 k H3 (Ex.refl H3) Q (fun H4 e4 => q H4 ((e2.trans e3).trans e4)) E
theorem q_asgLX {D : Ends} {tz : TS} {i : Nat} {P : List V → Prop} (h : EvLX te σ H P) (k : ∀ p xs H1, H p = none → Ex H H1 → H1 p = some (.lst xs) → P xs → tz D (σ.set i (some (.ref p))) H1) : tSeq (tAsg te (gName i)) tz D σ H :=
  h H (Ex.refl H) _ fun p xs H1 hp e1 h1 pk => k p xs H1 hp e1 h1 pk
end
end Bk
namespace Bk
open PySem PySem.Spec PyProof.Rows L2 Evl
/-! ### math.gcd, math.lcm -/
def rLcm : List V → Hp → VK → Prop := fun vs H Q => ∃ a b : Int, vs = [.int a, .int b] ∧ a.natAbs < 2 ^ 64 ∧ b.natAbs < 2 ^ 64 ∧ Q (.int ((Nat.lcm a.natAbs b.natAbs : Nat) : Int)) H
theorem cr_lcm {X : Cx} : CallR X (.builtin "math.lcm") rLcm := by
  intro pins s σ H vs us Q I r h
  obtain ⟨a, b, rfl, ha, hb, q⟩ := h
  obtain ⟨t, u, rfl⟩ := Vals.int2 r
  have e : ((Nat.lcm 1 a.natAbs).lcm b.natAbs) = Nat.lcm a.natAbs b.natAbs := by rw [Nat.lcm_one_left]
  refine PySem.W.mg_lcm_v (c := ((Nat.lcm a.natAbs b.natAbs : Nat) : Int)) ha hb (by rw [e]) ?_ ⟨.int _, H, I.tok _, ⟨_, rfl⟩, q⟩
  rw [Int.natAbs_natCast]
  have h1 : Nat.lcm a.natAbs b.natAbs ≤ a.natAbs * b.natAbs := by
    by_cases h0 : a.natAbs * b.natAbs = 0
    · rcases Nat.mul_eq_zero.mp h0 with z | z
      · rw [z, Nat.lcm_zero_left]; exact Nat.zero_le _
      · rw [z, Nat.lcm_zero_right]; exact Nat.zero_le _
    · exact Nat.le_of_dvd (Nat.pos_of_ne_zero h0) (Nat.lcm_dvd_mul _ _)
  have h2 : a.natAbs * b.natAbs < 2 ^ 64 * 2 ^ 64 := Nat.mul_lt_mul'' ha hb
  exact Nat.lt_of_lt_of_le (PySem.Flt.log2_lt_of (k := 128) (by decide) (by omega)) (by decide)
section
variable {K : PySem.W.Frag} {σ : L2.St} {H : Hp} {ta tb te : TE} {a b : Int}
theorem ev_gcd (ha : Ev ta σ H (.int a)) (hb : Ev tb σ H (.int b)) : Ev (tCB rGcd (tCons ta (tCons tb tNil))) σ H (.int ((Nat.gcd a.natAbs b.natAbs : Nat) : Int)) := fun H1 e Q q =>
  ha H1 e _ fun H2 e2 => hb H2 (e.trans e2) _ fun H3 e3 => ⟨a, b, rfl, q H3 (e2.trans e3)⟩
theorem ev_lcm (ha : Ev ta σ H (.int a)) (hb : Ev tb σ H (.int b)) (h1 : a.natAbs < 2 ^ 64) (h2 : b.natAbs < 2 ^ 64) : Ev (tCB rLcm (tCons ta (tCons tb tNil))) σ H (.int ((Nat.lcm a.natAbs b.natAbs : Nat) : Int)) := fun H1 e Q q =>
  ha H1 e _ fun H2 e2 => hb H2 (e.trans e2) _ fun H3 e3 => ⟨a, b, rfl, h1, h2, q H3 (e2.trans e3)⟩
end
/-! ### None or a pair of a number and a text -/
def BarV (b : Option (Nat × Str)) (v : V) (H : Hp) : Prop := match b with
  | none => v = .non
  | some (n, s) => ∃ p, v = .ref p ∧ H p = some (.tup [.int (n : Int), .str s])
theorem BarV.ex {b : Option (Nat × Str)} {v : V} {H H' : Hp} (h : BarV b v H) (e : Ex H H') : BarV b v H' := by
  cases b with
  | none => exact h
  | some x =>
    obtain ⟨p, e1, e2⟩ := h
    exact ⟨p, e1, e _ _ e2⟩
theorem BarV.isN {b : Option (Nat × Str)} {v : V} {H : Hp} (h : BarV b v H) : decide (v = .non) = b.isNone := by
  cases b with
  | none =>
    have h' : v = .non := h
    rw [h']
    rfl
  | some x =>
    obtain ⟨p, e1, e2⟩ := h
    rw [e1]
    rfl
def RetB (b : Option (Nat × Str)) (H : Hp) (Q : VK) : Prop := ∀ v H2, Ex H H2 → BarV b v H2 → Q v H2
def SpB (sp : Sp) (vs : List V) (H : Hp) (b : Option (Nat × Str)) : Prop := ∀ H1, Ex H H1 → ∀ Q : VK, RetB b H1 Q → ∀ E : XK, sp vs H1 Q E
def EvB (te : TE) (σ : L2.St) (H : Hp) (b : Option (Nat × Str)) : Prop := ∀ H1, Ex H H1 → ∀ Q : VK, RetB b H1 Q → te σ H1 Q
section
variable {K : PySem.W.Frag} {σ : L2.St} {H : Hp} {ta tb te : TE} {t : TA} {sp : Sp} {E : XK} {vs xs : List V} {b : Option (Nat × Str)} {D : Ends} {tz : TS} {i : Nat}
theorem eb_call (h : EvA t σ H vs) (hs : SpB sp (vs ++ []) H b) : EvB (tCall sp [] E t) σ H b := fun H1 e Q q =>
  h H1 e _ fun H2 e2 => hs H2 (e.trans e2) Q (fun v H3 e3 h3 => q v H3 (e2.trans e3) h3) E
theorem eb_callK {gV : List V → List V → List V} {zs : List V} {tk : TA} (h : EvA t σ H vs) (h' : EvA tk σ H zs) (hs : SpB sp (gV vs zs) H b) : EvB (tCallK sp gV E t tk) σ H b := fun H1 e Q q =>
  h H1 e _ fun H2 e2 => h' H2 (e.trans e2) _ fun H3 e3 => hs H3 ((e.trans e2).trans e3) Q (fun v H4 e4 h4 => q v H4 ((e2.trans e3).trans e4) h4) E
theorem eb_callL (h : EvL te σ H xs) (hs : ∀ p H1, Ex H H1 → H1 p = some (.lst xs) → SpB sp [.ref p] H1 b) : EvB (tCall sp [] E (tCons te tNil)) σ H b := fun H1 e Q q =>
  h H1 e _ fun p H2 hp e2 h2 => hs p H2 (e.trans e2) h2 H2 (Ex.refl H2) Q (fun v H3 e3 h3 => q v H3 (e2.trans e3) h3) E
theorem ev_bN (h : EvB te σ H b) : Ev (tOp (fun x y H Q => y = V.non ∧ Q (V.bl (decide (x = V.non))) H) te (tC .non)) σ H (.bl b.isNone) := fun H1 e Q q =>
  h H1 e _ fun v H2 e2 h2 => ⟨rfl, by
    rw [h2.isN]
    exact q H2 e2⟩
theorem ev_bS (h : EvB te σ H b) : Ev (tOp (fun x y H Q => y = V.non ∧ Q (V.bl (!decide (x = V.non))) H) te (tC .non)) σ H (.bl b.isSome) := fun H1 e Q q =>
  h H1 e _ fun v H2 e2 h2 => ⟨rfl, by
    rw [h2.isN]
    cases b
    · exact q H2 e2
    · exact q H2 e2⟩
theorem q_asgB (h : EvB te σ H b) (k : ∀ v H1, Ex H H1 → BarV b v H1 → tz D (σ.set i (some v)) H1) : tSeq (tAsg te (gName i)) tz D σ H :=
  h H (Ex.refl H) _ fun v H1 e1 h1 => k v H1 e1 h1
theorem s_retB (h : EvB te σ H b) (k : ∀ v H1, Ex H H1 → BarV b v H1 → D.rt v H1) : tRet te D σ H := h H (Ex.refl H) _ k
theorem s_retBn {n : Nat} {s : Str} {k : Int} (h : Ev ta σ H (.int k)) (hk : k = (n : Int)) (h' : ∀ H1, Ex H H1 → Ev tb σ H1 (.str s)) (q : ∀ v H1, Ex H H1 → BarV (some (n, s)) v H1 → D.rt v H1) : tRet (tTup (tCons ta (tCons tb tNil))) D σ H :=
  h H (Ex.refl H) _ fun H1 e1 => h' H1 e1 H1 (Ex.refl H1) _ fun H2 e2 => ⟨sz_of (by show 2 ≤ 100000; decide), fun p hp => q (.ref p) _ ((e1.trans e2).trans (Ex.new hp)) ⟨p, rfl, by
    rw [upd_same, hk]⟩⟩
end
/-! ### a value of which something is known -/
def EvX (te : TE) (σ : L2.St) (H : Hp) (P : V → Prop) : Prop := ∀ H1, Ex H H1 → ∀ Q : VK, (∀ v H2, Ex H1 H2 → P v → Q v H2) → te σ H1 Q
def SpX (sp : Sp) (vs : List V) (H : Hp) (P : V → Prop) : Prop := ∀ H1, Ex H H1 → ∀ Q : VK, (∀ v H2, Ex H1 H2 → P v → Q v H2) → ∀ E : XK, sp vs H1 Q E
section
variable {K : PySem.W.Frag} {σ : L2.St} {H : Hp} {ta tb te tl : TE} {t : TA} {tt : TT} {sp : Sp} {E : XK} {vs xs : List V} {D : Ends} {tz tu tw : TS} {i : Nat} {P : V → Prop}
theorem evx_call (h : EvA t σ H vs) (hs : SpX sp (vs ++ []) H P) : EvX (tCall sp [] E t) σ H P := fun H1 e Q q =>
  h H1 e _ fun H2 e2 => hs H2 (e.trans e2) Q (fun v H3 e3 h3 => q v H3 (e2.trans e3) h3) E
theorem q_asgX (h : EvX te σ H P) (k : ∀ v H1, Ex H H1 → P v → tz D (σ.set i (some v)) H1) : tSeq (tAsg te (gName i)) tz D σ H :=
  h H (Ex.refl H) _ fun v H1 e1 h1 => k v H1 e1 h1
/-- a comprehension over a new tuple -/
theorem el_lcNT {j : Nat} {ws : List Nat} (f : Nat → Bool) (v : Nat → V) (h : EvU tl σ H xs) (hz : xs.length ≤ 40000) (hw : ∀ x, wipe ((wipe σ ws).set j (some x)) ws = wipe σ ws)
    (ht : ∀ (i : Nat) (x : V) H1, Ex H H1 → xs[i]? = some x → EvT tt ((wipe σ ws).set j (some x)) H1 (f i)) (he : ∀ (i : Nat) (x : V) H1, Ex H H1 → xs[i]? = some x → f i = true → Ev te ((wipe σ ws).set j (some x)) H1 (v i)) :
    EvL (tLc (iTup K tl) (gName j) tt te ws) σ H (given xs.length f v) := fun H0 e Q q => h H0 e _ fun a H1 ha e1 h1 => ⟨a, rfl, ⟨xs, st_of h1⟩, fun Dl hD =>
  lc_tup (xs := xs) (Cw H1 f v Dl) ⟨hD, Ex.new hD, upd_same⟩ (fun i H' _ p => st_of (p.2.1 _ _ h1)) (fun i x H' hi p => ⟨hw x, cw_turn p (by have := (List.getElem?_eq_some_iff.mp hi).1; omega) (ht i x H1 (e.trans e1) hi) (fun hf => he i x H1 (e.trans e1) hi hf)⟩)
    (fun H' p => q Dl H' (fresh_back e1 p.1) (e1.trans p.2.1) p.2.2)⟩
variable {a : Addr} {d n : Nat}
theorem sw_ifB (h : EvW a d te σ H (fun v => ∃ b, v = .bl b)) (w : Well H a n) (l : n + d ≤ 2 ^ 50) (k1 : ∀ H1, But a H H1 → Well H1 a (n + d) → tu D σ H1)
    (k2 : ∀ H1, But a H H1 → Well H1 a (n + d) → tw D σ H1) : tIfS (tTest te) tu tw D σ H :=
  h n H (But.refl a H) w l _ fun v H2 b2 w2 ⟨b, e⟩ => ⟨b, e, by
    cases b with
    | true => exact iteT (k1 H2 b2 w2)
    | false => exact iteF (k2 H2 b2 w2)⟩
end
end Bk
namespace Bk
open PySem PySem.Spec PyProof.Rows L2 Evl
/-! ### an own error class whose __init__ says super().__init__('..') and keeps one field -/
/-- the def of a class, by its place in the class -/
def clsDef (st : Stmt) (i : Nat) : Stmt := match st with
  | .ClassDef _ _ _ b _ _ _ _ _ _ _ => b.getD i (.Pass ⟨0, 0, 0, 0⟩)
  | s => s
/-- the names of such an __init__ -/
structure SupS (f : Str) (sc : Scope) : Prop where
  kind : sc.kind = .function
  co : sc.isCoroutine = false
  gen : sc.isGenerator = false
  nocell : ∀ x ∈ sc.names, x.2 ≠ .cell
  free : ∀ x ∈ sc.names, x.2 = .free → x.1 = "__class__"
  self : sc.names.lookup ("self" : Str) = some .local
  field : sc.names.lookup f = some .local
  sup : sc.names.lookup ("super" : Str) = some .globalImplicit
  cls : sc.names.lookup ("__class__" : Str) = some .free
  fs : f ≠ "self"
  fd : (f == ("__debug__" : Str)) = false
  fc : (f == ("__classdict__" : Str)) = false
structure SupC (P : Program) (K : PySem.W.Frag) (mg : Str → Option Value) (C fI : Addr) (fd : FuncData) (f : Str) (st : Stmt) : Prop where
  ox : OexC K C
  iC : PySem.W.findIn K (.ref C) "__init__" = some (some (.ref fI))
  tI : PySem.W.typeIn K (.ref fI) = some (.type "function")
  nf : PySem.W.findIn K (.ref C) f = some none
  up : PySem.W.ks_superIn K C C "__init__" = some (some (.builtin "ValueError.__init__"))
  sB : PySem.W.subIn K (.ref C) (.type "ValueError") = some true
  sC : PySem.W.mroIn K C (.ref C) = some true
  no : PySem.W.nsIn K cStatics "thirdparty.any" = some none
  gS : mg "super" = none
  fn : ∃ qual oc od kV doc pm an cda ct cc osl cl cld csl ccl cdd ccs vs file tf, fd = PySem.W.fnX "__init__" qual (defArgs st) (defBody st) (defScope st) [("__class__", cc)] .none kV doc pm an (.ref cda) ct ∧
    K.lookup fI = some ⟨oc, od, .func fd, osl⟩ ∧ PySem.W.codeIn K (.ref cda) qual = true ∧
    K.lookup cc = some ⟨cl, cld, .cell (some (.ref C)), csl⟩ ∧ K.lookup cda = some ⟨ccl, cdd, .fields vs, ccs⟩ ∧ vs[2]? = some (.str file tf) ∧ ((P.main.file : Str) == file) = true
  top : (P.main.scope.names.lookup ("super" : Str)).isSome = false
  arg : ∃ ar, ((defArgs st).posonlyargs ++ (defArgs st).args).head? = some ar ∧ ar.arg = "self"
  body : ∃ p0 p1 p2 p3 p4 p5 p6 p7 p8 p9 m j, defBody st = [.Expr (.Call (.Attribute (.Call (.Name "super" p0) [] [] p1) "__init__" p2) [.Constant (.str m) j p3] [] p4) p5, .Assign [.Attribute (.Name "self" p6) f p7] (.Name f p8) p9] ∧
    (∀ env, ∃ pl : Sem Bool, eval (.Call (.Attribute (.Call (.Name "super" p0) [] [] p1) "__init__" p2) [.Constant (.str m) j p3] [] p4) env = (do
      let ov ← attributeBase (.Call (.Name "super" p0) [] [] p1) "__init__" env (eval (.Call (.Name "super" p0) [] [] p1) env)
      standAt p2.atName
      let (g, first) ← holding [ov] (getMethod ov "__init__" pl)
      callWith p4 g first (backTo p4 (starEach [.Constant (.str m) j p3] env)) [])) ∧
    ∀ env, swapsWith (.Name f p8) (some (.Attribute (.Name "self" p6) f p7)) p9.line env = pure false
  sc : SupS f (defScope st)

/-- the promise: the error gets its dict -/
def sp_sup (C : Addr) (f : Str) : Sp := fun vs H Q _ => ∃ (a : Addr) (v : V), vs = [.ref a, v] ∧ H a = some (exo a C none) ∧ ∀ dx, H dx = none → dx ≠ a → Q .non (upd (upd H dx (exd dx [(f, v)])) a (exo a C (some dx)))

section
variable {P : Program} {w : World} {K : PySem.W.Frag} {mg : Str → Option Value} {base : Heap} {C fI : Addr} {fd : FuncData} {f : Str} {st : Stmt}
/-- the frame of that def -/
def cxSup (P : Program) (w : World) (K : PySem.W.Frag) (mg : Str → Option Value) (base : Heap) (f : Str) (fd : FuncData) (fI : Addr) (A : Around) (out : List Env) (s : Shared) (H : Hp) (xe : Value → Shared → Prop) : Cx where
  prog := P
  w := w
  K := K
  mg := mg
  base := base
  A := A.deeper (callEnv fd s.heap.objs.size fI)
  N := ["self", f]
  s_0 := s
  H_0 := H
  env := callEnv fd s.heap.objs.size fI
  outer := out
  stack := callEnv fd s.heap.objs.size fI :: out
  ex := []
  fn := fun x => decide (x ≠ "__class__")
  calm := true
  pn := []
  xe := xe
theorem look1 {cc c : Addr} {x : Str} (h : ([(("__class__" : Str), cc)] : List (Str × Addr)).lookup x = some c) : x = "__class__" ∧ c = cc := by
  by_cases e : x = ("__class__" : Str)
  · subst e
    have z : some cc = some c := h
    exact ⟨rfl, (Option.some.inj z).symm⟩
  · have e' : (x == ("__class__" : Str)) = false := by simpa using e
    simp [List.lookup, e'] at h
theorem lkA {x f : Str} {u0 u1 : Value} (h : f ≠ x) : List.lookup x [(f, u1), (x, u0)] = some u0 := by
  have e : (x == f) = false := by simpa using Ne.symm h
  simp [List.lookup, e]
theorem lkB {x f : Str} {u0 u1 : Value} : List.lookup f [(f, u1), (x, u0)] = some u1 := by simp [List.lookup]
theorem two_of {vs : List V} {us : List Value} (r : Vals vs us) (hl : us.length = 2) : ∃ u0 u1 v0 v1, us = [u0, u1] ∧ vs = [v0, v1] ∧ RelV v0 u0 ∧ RelV v1 u1 := by
  cases r with
  | nil => cases hl
  | cons r0 r' =>
    cases r' with
    | nil => cases hl
    | cons r1 r'' =>
      cases r'' with
      | nil => exact ⟨_, _, _, _, rfl, rfl, r0, r1⟩
      | cons _ _ => simp at hl
theorem inv_sup {A : Around} {out : List Env} {s : Shared} {H : Hp} {xe : Value → Shared → Prop} {h₀ : Heap} {t : Nat} (S : SupC P K mg C fI fd f st)
    (hd : A.handled = none) (e0 : Env0 P w K mg base A out s H) {u0 u1 : Value} {v0 v1 : V} (r0 : RelV v0 u0) (r1 : RelV v1 u1) (hn : h₀.Ns s.heap.objs.size (fun x => List.lookup x [(f, u1), (("self" : Str), u0)])) (k : ∀ b o, s.heap.get? b = some o → h₀.get? b = some o) :
    Inv (cxSup P w K mg base f fd fI A out s H xe) [] [some v0, some v1] H { s with heap := h₀, toks := t } := by
  obtain ⟨qual, oc, od, kV, doc, pm, an, cda, ct, cc, osl, cl, cld, csl, ccl, cdd, ccs, us', file, tf, rfl, h2, h3, h4, _⟩ := S.fn
  have SC := S.sc
  have hK : K.In s.heap := e0.mod.kin.keeps fun b o e => (e0.bs b o e).1
  have hcc := e0.mod.kin _ _ h4
  have noA : ∀ b : Addr, b ∉ (cxSup P w K mg base f (PySem.W.fnX "__init__" qual (defArgs st) (defBody st) (defScope st) [("__class__", cc)] .none kV doc pm an (.ref cda) ct) fI A out s H xe).ex := fun b z => absurd (show b ∈ ([] : List Addr) from z) (by simp)
  refine ⟨⟨e0.mod, SC.kind, rfl, rfl, Nat.le_refl _, fun y z c h1 h2 => ?_, fun y hy => ?_, fun y c hy h => ?_, fun _ => hd, Around.frames_deeper e0.frames, .inr ⟨rfl, rfl⟩, fun b z => absurd z (noA b), e0.bs, e0.bsz, fun b _ _ => noA b, fun b z => absurd z (noA b), e0.funs, e0.frf⟩,
    rfl, e0.bare, Un.kept k, ⟨_, hn, fun i y v h1 h2 h3 => ?_⟩, fun y c h => ?_, e0.hok.fresh (Nat.le_refl _), fun y c h => ?_, fun p hp => absurd (show p ∈ ([] : List (Addr × Obj)) from hp) (by simp), e0.hok.kept k, ?_⟩
  · rw [(look1 h1).1, (look1 h2).1]
  · have hy : (defScope st).names.lookup y = some .cell ∨ (defScope st).names.lookup y = some .free := hy
    rcases hy with hy | hy
    · exact absurd rfl (SC.nocell _ (PySem.mem_of_lookup hy))
    · have e : y = ("__class__" : Str) := SC.free _ (PySem.mem_of_lookup hy) rfl
      rw [e]
      exact ⟨cc, rfl⟩
  · have e := (look1 h).1
    exact absurd e (of_decide_eq_true hy)
  · match i, h1, h2 with
    | 0, h1, h2 =>
      have ey := Option.some.inj h1
      have ev := Option.some.inj (Option.some.inj h2)
      subst ey ev
      exact ⟨u0, r0, .inl ⟨SC.self, lkA SC.fs⟩⟩
    | 1, h1, h2 =>
      have ey := Option.some.inj h1
      have ev := Option.some.inj (Option.some.inj h2)
      subst ey ev
      exact ⟨u1, r1, .inl ⟨SC.field, lkB⟩⟩
    | i + 2, h1, h2 => cases h1
  · obtain ⟨e1, e2⟩ := look1 h
    subst e1 e2
    exact ⟨_, _, k _ _ (e0.bs _ _ hcc).1, rfl⟩
  · obtain ⟨e1, e2⟩ := look1 h
    subst e1 e2
    exact (e0.bs _ _ hcc).2
  · rfl
/-- ValueError.__init__ held by a method-wrapper, called: the error stays one -/
theorem wrap_call {X : Cx} {pins : List (Addr × Obj)} {σ : L2.St} {H : Hp} {s : Shared} {u a : Addr} {v : Value} {Q : Value → Shared → Prop} {E : Value → Shared → Prop} (T : OexC X.K C) (I : Inv X pins σ H s) (hu : s.heap.get? u = some (PySem.W.kxs_mw "ValueError.__init__" a)) (e : H a = some (exo a C none))
    (k : ∀ s', Inv X pins σ H s' → Q .none s') : wpAny (model X.prog X.w) X.A (call (.ref u) [v]) Q E s := by
  obtain ⟨nm, q, N, bs, bm, sn, sub, ab, col, dd, k0, k1, k2, k3, k5, hC, hbm⟩ := T.cls
  obtain ⟨t1, ho⟩ := exo_at I.hok e
  have hCs := I.kIn _ _ hC
  obtain ⟨hh, g, d, tk, os⟩ := s
  have nmeth : (Value.type "method-wrapper" == Value.type "method" || Value.type "method-wrapper" == Value.type "builtin_function_or_method" || Value.type "method-wrapper" == Value.type "method-wrapper") = true := by decide
  refine wpAny_call (codeAny_of_tree ?_)
  show wpAny _ X.A.in1 (callAny (.ref u) ⟨[v], []⟩) _ _ _
  simp only [callAny]
  refine wpAny_bind (wpAny_load hu ?_)
  simp only [PySem.W.kxs_mw, nmeth, if_true]
  refine PySem.W.KFB.if_so (by decide) ?_
  refine wpAny_bind (PySem.W.check_bound_init F.excBase_ValueError.toExcCallFacts hCs ho rfl ?_)
  refine wpAny_bind (wpAny_pure (wpAny_pure ⟨plainId_quiet F.excBase_ValueError.init.plain _, codeAny_builtin F.excBase_ValueError.initEntry ?_⟩))
  have go : ∀ h', (∀ b o, b ≠ a → hh.get? b = some o → h'.get? b = some o) → h'.get? a = some (PySem.W.excObj C hh.objs.size none .none) → Q .none ⟨h', g, d, tk, os⟩ := fun h' kk hx => by
    have J := I.write (t' := tk) (x := a) (e := a) (o := exo a C none) (by rw [e]; exact True.intro) (.inl rfl) kk ⟨_, hx⟩ (exo_ok hx)
    have eu : upd H a (exo a C none) = H := by
      funext b
      by_cases hb : b = a
      · rw [hb, upd_same, e]
      · rw [upd_ne hb]
    rw [eu] at J
    exact k _ J
  exact PySem.W.exc_init_tree (cls := .ref C) (t0 := t1) (dv := none) (c2 := .none) (c3 := .none) (b4 := .bool false) ho (by show 1 ≤ sizeLine; rw [sizeLine_eq]; omega) fun h' kk hx _ => go h' kk hx

theorem sup_ok (S : SupC P K mg C fI fd f st) : FnOk P w K mg base CX0 1 fI fd ["self", f] (sp_sup C f) := by
  refine ⟨fun vs H Q E ⟨a, v, e, _⟩ => by rw [e]; rfl, ?_⟩
  intro A out s H args us vs Q E hr e0 hb rv hsp
  obtain ⟨a, v, rfl, ea, q⟩ := hsp
  obtain ⟨u0, u1, v0, v1, rfl, ev, r0, r1⟩ := two_of rv (by rw [← rv.length]; rfl)
  obtain rfl : v0 = V.ref a := (List.cons.inj ev).1.symm
  obtain rfl : v1 = v := ((List.cons.inj (List.cons.inj ev).2).1).symm
  obtain rfl : u0 = Value.ref a := r0
  have SC := S.sc
  have hK : K.In s.heap := e0.mod.kin.keeps fun b o e => (e0.bs b o e).1
  have noL : s.heap.NoLimit := e0.mod.nolimit.keeps fun b o e => (e0.bs b o e).1
  obtain ⟨qual, oc, od, kV, doc, pm, an, cda, ct, cc, osl, cl, cld, csl, ccl, cdd, ccs, ws, file, tf, efd, h2, h3, h4, h5, h6, h7⟩ := S.fn
  have hkk : fd.scope.kind = .function := by rw [efd]; exact SC.kind
  have bz : ((["self", f] : List Str).zip [Value.ref a, u1]) = [(("self" : Str), Value.ref a), (f, u1)] := rfl
  rw [bz] at hb
  refine ks_codeAny_call_defAt (fd := fd) (body := defBody st) (binds := [(("self" : Str), Value.ref a), (f, u1)]) hr.depth (hK _ _ h2) rfl noL (by rw [efd]; exact PySem.W.codeRec_of hK h3) (by rw [efd]) hb (by rw [efd]; exact SC.nocell) ?_ (fun h₀ hn k => ?_) (by rw [efd]; exact SC.co) (by rw [efd]; exact SC.gen) hkk
  · intro y hy
    rw [efd]
    rcases List.mem_cons.mp hy with e | hy
    · rw [e]
      exact SC.self
    · rw [List.mem_singleton.mp hy]
      exact SC.field
  have I := inv_sup (base := base) (w := w) (f := f) (fd := fd) (A := A) (out := out) (h₀ := h₀) (t := s.toks + 2) (xe := fun e s' => wpAny (model P w) (A.deeper (callEnv fd s.heap.objs.size fI)) (leaving (callEnv fd s.heap.objs.size fI) e) (fun _ s'' => CR CX0 out P w H s Q E (.error e) s'') (fun e' s'' => CR CX0 out P w H s Q E (.error e') s'') s') S hr.hd e0 (u0 := Value.ref a) (v0 := V.ref a) rfl r1 hn k
  generalize hX : cxSup P w K mg base f fd fI A out s H _ = X at I
  have xP : X.prog = P := by rw [← hX]; rfl
  have xw : X.w = w := by rw [← hX]; rfl
  have xK : X.K = K := by rw [← hX]; rfl
  have xm : X.mg = mg := by rw [← hX]; rfl
  have xA : X.A = A.deeper (callEnv fd s.heap.objs.size fI) := by rw [← hX]; rfl
  have xe : X.env = callEnv fd s.heap.objs.size fI := by rw [← hX]; rfl
  have xN : X.N = [("self" : Str), f] := by rw [← hX]; rfl
  have sc : X.env.scope = defScope st := by rw [xe, efd]; rfl
  have cl : X.env.cells = [(("__class__" : Str), cc)] := by rw [xe, efd]; rfl
  have fin : ∀ (fl : Flow) (s' : Shared), SP X [] { nx := fun _ H' => Q .non H', rt := Q } fl s' → CR CX0 out P w H s Q E (.ok (.ret (match fl with | .ret v => v | _ => .none))) s' := fun fl s' hs => by
    have un : ∀ {σ' : L2.St} {H' : Hp}, Inv X [] σ' H' s' → s'.os = s.os ∧ AllBare s'.gens ∧ Un (frs out) [] H H' s.heap s'.heap ∧ HOk P w H' s'.heap := fun J => by
      subst hX
      exact ⟨J.os, J.bare, J.base, J.hok⟩
    cases fl with
    | next =>
      obtain ⟨σ', H', J, q'⟩ := hs
      obtain ⟨a1, a2, a3, a4⟩ := un J
      exact ⟨.non, H', a1, a2, a3, a4, rfl, q'⟩
    | ret u =>
      obtain ⟨v', σ', H', J, rr, q'⟩ := hs
      obtain ⟨a1, a2, a3, a4⟩ := un J
      exact ⟨v', H', a1, a2, a3, a4, rr, q'⟩
    | brk =>
      obtain ⟨_, _, _, q'⟩ := hs
      exact q'.elim
    | cont =>
      obtain ⟨_, _, _, q'⟩ := hs
      exact q'.elim
  have xx : X.xe = fun e s' => wpAny (model P w) (A.deeper (callEnv fd s.heap.objs.size fI)) (leaving (callEnv fd s.heap.objs.size fI) e) (fun _ s'' => CR CX0 out P w H s Q E (.error e) s'') (fun e' s'' => CR CX0 out P w H s Q E (.error e') s'') s' := by rw [← hX]; rfl
  refine ks_wpAt_mono (Q := SP X [] { nx := fun _ H' => Q .non H', rt := Q }) (E := X.xe) ?_ (fun fl s' hs => fin fl s' hs) (fun e s' hs => by rw [xx] at hs; exact hs)
  rw [← xA, ← xe, ← xP, ← xw]
  clear fin xx
  have hcc := e0.mod.kin _ _ h4
  obtain ⟨p0, p1, p2, p3, p4, p5, p6, p7, p8, p9, m, j, eb, ehe, esw⟩ := S.body
  obtain ⟨pl, he⟩ := ehe X.env
  have hsw := esw X.env
  obtain ⟨ar, har, ear⟩ := S.arg
  rw [eb]
  have hKX := I.kIn
  rw [xK] at hKX
  have hks : X.env.kindOf "super" = some .globalImplicit := by
    show X.env.scope.names.lookup _ = _
    rw [sc]
    exact SC.sup
  have hkc : X.env.kindOf "__class__" = some .free := by
    show X.env.scope.names.lookup _ = _
    rw [sc]
    exact SC.cls
  have hkse : X.env.kindOf "self" = some .local := by
    show X.env.scope.names.lookup _ = _
    rw [sc]
    exact SC.self
  have hlv : X.env.scope.kind = .function := I.ok.kind
  obtain ⟨mL, hnL, hlook⟩ := I.loc
  have hself : mL "self" = some (Value.ref a) := by
    obtain ⟨u, ru, q'⟩ := hlook 0 "self" (.ref a) (by rw [xN]; rfl) rfl (.inl hkse)
    obtain rfl : u = Value.ref a := ru
    rcases q' with ⟨_, e⟩ | ⟨hk', _⟩
    · exact e
    · rcases hk' with hk' | hk' <;> (rw [hkse] at hk'; cases hk')
  obtain ⟨t1, ho⟩ := exo_at I.hok ea
  obtain ⟨nm, qc, Nc, bs, bm, sn, sub, ab, col, dd, k0, k1, k2, k3, k5, hC, hbm⟩ := S.ox.cls
  have hCs := hKX _ _ hC
  have hfi := hKX _ _ h2
  have efn : X.env.func = some fI := by rw [xe, efd]; rfl
  have eco : X.env.code = .ref cda := by rw [xe, efd]; rfl
  refine ks_wpAt_execs_cons (ks_wpAt_Expr_any (ks_wpAt_MethodCall (pl := pl) ?_ he) I.quiet)
  refine ks_wpAt_super_base (of := ⟨oc, od, .func fd, osl⟩) (fd := fd) (ar := ar) hks hkc rfl efn hfi rfl (by rw [efd]; exact har) eco (hKX _ _ h5) rfl h6 (by rw [xP]; exact h7) (by rw [xP]; exact S.top) ?_
  refine PySem.W.ks_loadName_global hlv hks (Calls.loadGlobal_builtin (by rw [I.ok.glob]; exact I.mod.glob.keeps I.bk) (by rw [xm]; exact S.gS) (by rw [I.ok.blt]; exact I.mod.blt.choose_spec.1.keeps I.bk) ((I.mod.blt.choose_spec.2 _ (by decide)).trans (by decide +kernel)) ⟨rfl, ?_⟩)
  have hcl : X.env.cells.lookup ("__class__" : Str) = some cc := by rw [cl]; rfl
  refine wpAny_loadName_free hlv hkc hcl ⟨_, hKX _ _ h4, rfl⟩ ?_
  rw [ear]
  refine wpAny_loadName_local hlv hkse hnL hself ?_
  refine ks_wpAny_isType_cls hCs rfl ⟨rfl, ?_⟩
  refine ks_wpAny_call_super hCs rfl ho rfl (fun c z => by cases z) (PySem.W.looks_mroIn hKX S.sC) (fun h' e' k' => ?_)
  have hcd : PySem.W.clsIn K C = some { name := nm, bases := bs, mro := .ref C :: bm, ns := Nc, qualname := qc, hasDict := true, slotNames := sn, subclasses := sub, abstract := ab, collection := col, hasDel := false } := by
    unfold PySem.W.clsIn
    rw [hC] <;> rfl
  have hup := S.up
  unfold PySem.W.ks_superIn at hup
  rw [hcd] at hup
  have I1 : Inv X [] [some (.ref a), some v1] H { heap := h', gens := s.gens, drawn := s.drawn, toks := s.toks + 2, os := s.os } := I.kept (t' := s.toks + 2) k'
  have hK1 := I1.kIn
  rw [xK] at hK1
  have hI : PySem.W.Looks (model X.prog X.w) h' (isInstance (.ref a) (.type "ValueError")) true := (PySem.W.InstAt.type (od := none) ⟨k' _ _ ho, rfl, rfl, trivial⟩).andThen (PySem.W.looks_subIn hK1 S.sB)
  have aC : a ≠ C := fun z => by
    rw [z] at ho
    rw [ho] at hCs
    cases hCs
  refine PySem.W.kxs_getMethod PySem.W.kxs_ValueError e' (PySem.W.looks_opaque hK1 S.no) (l₀ := .ref C :: bm) (fun A Q E s k q => wpAny_bind ((PySem.W.looks_clsIn hK1 hcd) A _ E s k (wpAny_pure q))) rfl hK1 hup hI aC (by decide) ?_
  have I2 : Inv X [(h'.objs.size, PySem.W.kxs_mw "ValueError.__init__" a)] [some (.ref a), some v1] H { heap := h'.push (PySem.W.kxs_mw "ValueError.__init__" a), gens := s.gens, drawn := s.drawn, toks := s.toks + 2 + 1, os := s.os } := by
    refine (I1.kept (t' := s.toks + 2 + 1) (h' := h'.push (PySem.W.kxs_mw "ValueError.__init__" a)) fun b o z => Heap.get?_push_of_some _ z).pins_of fun p hp => ?_
    rw [List.mem_singleton.mp hp]
    exact ⟨Heap.get?_push_size _ rfl, I1.hok.fresh (Nat.le_refl _), Nat.ne_of_gt I1.lt, I1.nofs (Nat.le_refl _), fun v z => by cases z⟩
  refine PySem.W.kxs_callWith (i := "ValueError.__init__") (x := a) rfl (PySem.Calls.evalArgs_plain (thn ((pa_cons pe_str pa_nil : PA X [.Constant (.str m) j p3] _).run p4 _ _ _ H (fun vs H1 => vs = [V.str m] ∧ H1 = H) I2 ⟨rfl, rfl⟩) fun us s3 hh => ?_))
  obtain ⟨vs3, H3, I3, r3, rfl, rfl⟩ := hh
  obtain ⟨u3, rfl, _⟩ := vals1 r3
  have hpin := (I3.pin (h'.objs.size, PySem.W.kxs_mw "ValueError.__init__" a) (List.mem_append_right _ List.mem_cons_self)).1
  refine ⟨hpin, wrap_call (by rw [xK]; exact S.ox) I3 hpin ea fun s4 J => ?_⟩
  have J' : Inv X [] [some (.ref a), some v1] H3 s4 := J.pins_of fun p hp => nomatch hp
  refine wpAt_of_wpAny ((pss_one (ps_ost (X := X) (pe_var (i := 0) (by rw [xN]; rfl) (.inl hkse) (by decide) (by decide)) (pe_var (i := 1) (by rw [xN]; rfl) (.inl (by rw [sc]; exact SC.field)) SC.fd SC.fc) hsw)).run [] s4 _ H3 _ J' ?_)
  exact ⟨v1, rfl, .ref a, rfl, a, C, rfl, by rw [xK]; exact S.ox, by rw [xK]; exact S.nf, .inl ⟨ea, fun dx n ne => q dx n ne⟩⟩
end
end Bk
namespace Bk
open PySem PySem.Spec PyProof.Rows L2 Evl
/-! ### an error class of the program, and what is known of it -/
structure ErrK (K : PySem.W.Frag) (mg : Str → Option Value) (nm : Str) (C : Addr) : Prop where
  g : mg nm = some (.ref C)
  k : PySem.W.keepIn K (.ref C) = true
  t : PySem.W.typeIn K (.ref C) = some (.type "type")
  s : PySem.W.subIn K (.ref C) (.ref C) = some true
  v : PySem.W.subIn K (.ref C) (.type "ValueError") = some true
  ex : ExcC K C
theorem err_mk {K : PySem.W.Frag} {h : Heap} {mg : Str → Option Value} {nm : Str} {C : Addr} (X : K.In h) (G : h.Ns mainGlobals mg) (a : PySem.W.nsIn K mainGlobals nm = some (some (.ref C))) (k : PySem.W.keepIn K (.ref C) = true)
    (t : PySem.W.typeIn K (.ref C) = some (.type "type")) (s : PySem.W.subIn K (.ref C) (.ref C) = some true) (v : PySem.W.subIn K (.ref C) (.type "ValueError") = some true)
    (e1 : PySem.W.findIn K (.ref C) "__getattribute__" = some (some (.builtin "BaseException.__getattribute__"))) (e2 : PySem.W.findIn K (.ref C) "__getattr__" = some none) (e3 : PySem.W.subIn K (.ref C) (.type "BaseException") = some true) (e4 : PySem.W.hasDictIn K C = true)
    (e5 : PySem.W.findIn K (.ref C) "__class__" = some (some (.builtin "object.__class__"))) (e6 : PySem.W.specialIn K (.builtin "object.__class__") "__get__" = some (some (.builtin "getset_descriptor.__get__"))) (e7 : PySem.W.takesIn K (.builtin "object.__class__") = some true)
    (e8 : PySem.W.mroIn K C (.type "object") = some true) : ErrK K mg nm C :=
  ⟨PySem.W.mg_of X G a, k, t, s, v, ⟨e1, e2, e3, e4, e5, e6, e7, e8⟩⟩
section
variable {K : PySem.W.Frag} {mg : Str → Option Value} {nm nd : Str} {C D : Addr} {b : Bool}
theorem ErrK.cls (x : ErrK K mg nm C) : (PySem.W.clsIn K C).isSome = true := by
  obtain ⟨cd, hc, _⟩ := PySem.W.any_some x.ex.hd
  rw [hc]
  rfl
/-- an error of D where C is named by a clause -/
theorem ErrK.exm (x : ErrK K mg nm C) (h : PySem.W.subIn K (.ref D) (.ref C) = some b) : PySem.W.exmOne K (.ref D) (.ref C) = some b := PySem.W.exm_ref x.ex.hs x.ex.hd x.t h
theorem ErrK.kit (x : ErrK K mg nm C) (h : PySem.W.subIn K (.ref D) (.ref C) = some b) : PySem.W.kitOne K (.ref D) (.ref C) = some b := by
  unfold PySem.W.kitOne
  by_cases e : D = C
  · subst e
    rw [if_pos (by simp), ← h, x.s]
  · rw [if_neg (by simpa using e)]
    show (if ((PySem.W.clsIn K C).isSome && PySem.W.typeIn K (.ref C) == some (.type "type")) = true then PySem.W.subIn K (.ref D) (.ref C) else none) = some b
    rw [x.cls, x.t, h]
    rfl
theorem ErrK.kitV (x : ErrK K mg nm C) : PySem.W.kitOne K (.ref C) (.type "ValueError") = some true := by
  unfold PySem.W.kitOne
  rw [if_neg (by simp)]
  show (if PySem.W.kitMeta "ValueError" = true then _ else none) = some true
  rw [if_pos (by decide +kernel)]
  exact x.v
theorem ErrK.kitN (x : ErrK K mg nm C) : PySem.W.kitOne K (.type "NoneType") (.ref C) = some false := by
  unfold PySem.W.kitOne
  rw [if_neg (by simp)]
  show (if ((PySem.W.clsIn K C).isSome && PySem.W.typeIn K (.ref C) == some (.type "type")) = true then PySem.W.subIn K (.type "NoneType") (.ref C) else none) = some false
  rw [x.cls, x.t]
  have e : PySem.fastBuiltinMro "NoneType" = some [Value.type "NoneType", Value.type "object"] := by decide +kernel
  show (PySem.fastBuiltinMro "NoneType").map (·.contains (.ref C)) = some false
  rw [e]
  rfl
theorem kb_none_value : kitB "NoneType" "ValueError" = some false := by decide +kernel
end
/-! ### raise C(e), C with the __init__ of P19 -/
section
variable {X : Cx} {C fI : Addr} {fd : FuncData} {f x : Str} {st : Stmt} {e : Expr} {te : TE} {p pos : Pos}
theorem pmk_sup (S : SupC X.prog X.K X.mg C fI fd f st) (hb : Binds X.K fd ["self", f] []) (hr : Room 2 X.A) (hg : Gl X x) (hm : X.mg x = some (.ref C)) (ha : PA X [e] (tCons te tNil)) (hdb : (x == ("__debug__" : Str)) = false := by decide)
    (hst : starEach [e] X.env = (false, eval e X.env) :: starEach [] X.env := by rfl) : PMk X (.Call (.Name x p) [e] [] pos) (tMkO C (sp_sup C f) [] (tCons te tNil)) :=
  pmk_oex (CX := CX0) (k := 1) S.ox S.iC S.tI (sup_ok S) hr hb .nil (fun _ _ _ _ _ _ _ z => z.elim) hg hm ha hdb hst rfl
theorem mk_ev {σ : L2.St} {H : Hp} {v : V} {Q : XK} (h : Ev te σ H v) (q : ∀ H1 d, Ex H H1 → H1 d = none → Q (.ref C) (some d) (upd H1 d (.xd [(f, v)]))) : tMkO C (sp_sup C f) [] (tCons te tNil) σ H Q :=
  h H (Ex.refl H) _ fun H1 e1 => ⟨by show 1 ≤ 1000; decide, fun a ha => ⟨a, v, rfl, upd_same, fun dx hdx ne => ⟨rfl, dx, [(f, v)], upd_same, by rw [upd_ne ne, upd_same], by rw [upd_ne ne] at hdx; exact hdx, by
    have hd : H1 dx = none := by rw [upd_ne ne] at hdx; exact hdx
    have eq : upd (del (upd (upd (upd H1 a (exo a C none)) dx (exd dx [(f, v)])) a (exo a C (some dx))) a) dx (.xd [(f, v)]) = upd H1 dx (.xd [(f, v)]) := by
      funext b
      by_cases c : b = dx
      · rw [c, upd_same, upd_same]
      · rw [upd_ne c, upd_ne c]
        by_cases c2 : b = a
        · rw [c2, del_same, ha]
        · rw [del_ne c2, upd_ne c2, upd_ne c, upd_ne c2]
    rw [eq]
    exact q H1 dx e1 hd⟩⟩⟩
end
/-! ### an error that was caught and is kept -/
def ExK (cls : Value) (d : Option Addr) (a : Addr) : HO := .ext fun h => ∃ (oe : Obj) (vs : Array Value), h.get? a = some oe ∧ Zc cls d oe ∧ oe.data = .fields vs
theorem exk_ok {P : Program} {w : World} {H : Hp} {h : Heap} {a : Addr} {cls : Value} {d : Option Addr} {oe : Obj} {vs : Array Value} (e : h.get? a = some oe) (z : Zc cls d oe) (hd : oe.data = .fields vs) : ObjOk P w H h a (ExK cls d a) :=
  ⟨⟨oe, vs, e, z, hd⟩, ⟨oe, e⟩, fun _ _ ⟨o, v, q, r⟩ k => ⟨o, v, k o q, r⟩⟩
theorem exk_at {P : Program} {w : World} {H : Hp} {h : Heap} {a : Addr} {cls : Value} {d : Option Addr} (hok : HOk P w H h) (e : H a = some (ExK cls d a)) : ∃ (oe : Obj) (vs : Array Value), h.get? a = some oe ∧ Zc cls d oe ∧ oe.data = .fields vs := by
  have x : ObjOk P w H h a (.ext fun h => ∃ (oe : Obj) (vs : Array Value), h.get? a = some oe ∧ Zc cls d oe ∧ oe.data = .fields vs) := hok a _ e
  exact x.1
section
variable {X : Cx} {pins : List (Addr × Obj)} {σ : L2.St} {H : Hp} {s : Shared}
/-- an object that nobody tracks is taken up -/
theorem adopt {a : Addr} {oe : Obj} {vs : Array Value} {cls : Value} {d : Option Addr} (I : Inv X pins σ H s) (ha : s.heap.get? a = some oe) (z : Zc cls d oe) (hd : oe.data = .fields vs) (na : H a = none) (n0 : X.s_0.heap.get? a = none) (nL : a ≠ X.env.locals)
    (nP : ∀ p ∈ X.pn ++ pins, p.1 ≠ a) : Inv X pins σ (upd H a (ExK cls d a)) s := by
  have ne : ∀ {b : Addr} {o : HO}, H b = some o → b ≠ a := fun q => ne_of_none q na
  refine ⟨I.ok, I.os, I.bare, ⟨I.base.keep, I.base.slot, fun b o q n x => ?_, I.base.there, fun b xs q => ?_, fun b o u q => ?_, fun b ps q => ?_⟩, I.loc, I.cell, ?_, fun x c h => ?_, fun p hp => ?_, fun b o q => ?_, I.len⟩
  · rw [upd_ne fun z => by rw [z, n0] at q; cases q]
    exact I.base.free b o q n x
  · have r := I.base.tups b xs q
    rw [upd_ne (ne r)]
    exact r
  · have r := I.base.frzs b o u q
    rw [upd_ne (ne r)]
    exact r
  · obtain ⟨more, r⟩ := I.base.tbls b ps q
    exact ⟨more, by rw [upd_ne (ne r)]; exact r⟩
  · rw [upd_ne nL.symm]
    exact I.free
  · obtain ⟨v, o, ho, hv⟩ := I.cell x c h
    rw [upd_ne fun z => by
      rw [z, ha] at ho
      cases ho
      rw [hd] at hv
      cases hv]
    exact I.freeC x c h
  · obtain ⟨p1, p2, p3⟩ := I.pin p hp
    exact ⟨p1, by rw [upd_ne (nP p hp)]; exact p2, p3⟩
  · by_cases c : b = a
    · subst c
      rw [upd_same] at q
      cases q
      exact exk_ok ha z hd
    · rw [upd_ne c] at q
      exact (I.hok b o q).stay (fun _ _ _ r => r) (fun e r => by rw [upd_ne (ne r)]; exact r) fun e xs r => by rw [upd_ne (ne r)]; exact r
theorem suite0 (I : Inv X pins σ H s) (a : Addr) : Inv (X.suite a (X.pn ++ pins)) [] σ H s :=
  ⟨I.ok.suite _ _, I.os, I.bare, I.base, I.loc, I.cell, I.free, I.freeC, fun p hp => I.pin p (by rw [List.append_nil] at hp; exact hp), I.hok, I.len⟩
theorem unsuite0 {a : Addr} {pn' : List (Addr × Obj)} (I : Inv (X.suite a (X.pn ++ pins)) pn' σ H s) (ok : X.Ok) : Inv X pins σ H s :=
  ⟨ok, I.os, I.bare, I.base, I.loc, I.cell, I.free, I.freeC, fun p hp => I.pin p (List.mem_append_left _ hp), I.hok, I.len⟩
end
/-- what 'except x as n: suite' wishes where the error is kept -/
def wKept (K : PySem.W.Frag) (c : Value) (i : Nat) (ts : TS) (Wout : WX) (D : Ends) : WX := fun cls d σ H =>
  ∃ b, PySem.W.exmOne K cls c = some b ∧ (b = true → ∀ a, H a = none → ts { nx := fun σ' H' => D.nx (σ'.set i none) H', rt := D.rt, bk := fun σ' H' => D.bk (σ'.set i none) H', ct := fun σ' H' => D.ct (σ'.set i none) H' } (σ.set i (some (.ref a))) (upd H a (ExK cls d a))) ∧
    (b = false → Wout cls d σ H)
section
variable {X : Cx} {x n : Str} {c : Value} {i : Nat} {body suite : List Stmt} {first : Stmt} {np pos pos' : Pos} {tb : WX → TS} {ts : TS} {Wout : WX}
theorem ps_try_kept (hs : X.stack = X.env :: X.outer) (hf : X.env.frame = some X.env.locals) (hex : X.ex = []) (hN : X.N.Nodup) (hi : X.N[i]? = some n) (hln : X.env.kindOf n = some .local) (hc : Names X x c) (tk : Takes X Wout)
    (hb : ∀ (W : WX) (pn : List (Addr × Obj)) (xe : Value → Shared → Prop), Takes (X.tr pn xe) W → PassesOwn (model X.prog X.w) X.A X.env xe → PSs (X.tr pn xe) body (tb W))
    (hsu : ∀ (a : Addr) (pn : List (Addr × Obj)), PSs (X.suite a pn) (first :: suite) ts) :
    PS X (.Try body [.ExceptHandler (some (.Name x np)) (some n) (first :: suite) pos'] [] [] pos) (fun D σ H => tb (wKept X.K c i ts Wout D) D σ H) := by
  refine ⟨fun pins s σ H D I h => ?_⟩
  have ok0 := I.ok
  have frm : X.A.frames = some (X.env :: X.outer) := by rw [ok0.frames, hs]
  have isLoc : Loc X.env.scope n := .inl hln
  refine wpAny_Try_except ?_
  have run := (hb (wKept X.K c i ts Wout D) (X.pn ++ pins) (fun ev t1 => wpAny (model X.prog X.w) X.A (noteFrame ev X.env) (fun _ t2 => wpAny (model X.prog X.w) X.A (setFlight ev none) (fun _ t3 =>
    wpAny (model X.prog X.w) X.A (handleBy ev X.env [.ExceptHandler (some (.Name x np)) (some n) (first :: suite) pos']) (SP X pins D) X.xe t3) X.xe t2) X.xe t1) (fun u t' air => ?_) PassesOwn.looking).run [] s σ H D (I.toTry _) h
  · refine wpAny_mono run (fun fl t1 hfl => ?_) (fun _ _ he => he)
    cases fl with
    | next =>
      obtain ⟨σ', H', J, q⟩ := hfl
      exact wpAny_execs_nil ⟨σ', H', J.ofTry ok0, q⟩
    | brk =>
      obtain ⟨σ', H', J, q⟩ := hfl
      exact ⟨σ', H', J.ofTry ok0, q⟩
    | cont =>
      obtain ⟨σ', H', J, q⟩ := hfl
      exact ⟨σ', H', J.ofTry ok0, q⟩
    | ret u =>
      obtain ⟨v, σ', H', J, r, q⟩ := hfl
      exact ⟨v, σ', H', J.ofTry ok0, r, q⟩
  · obtain ⟨a, B, sJ, pins', σ', H', cls, d, rfl, Jt, nb, up, sky, na, eos, bare, b, hb1, hyes, hno⟩ := air
    have J : Inv X pins σ' H' sJ := Jt.ofTry ok0
    have skyE : Sky B (X.env :: X.outer) a (Zc cls d) X.env.locals t'.heap := by rw [← hs]; exact sky
    show wpAny (model X.prog X.w) X.A (noteFrame (.ref a) X.env) _ _ _
    refine Sky.land Zc.steady frm hf skyE fun g3 f3 u3 => ?_
    have J3 : Inv X pins σ' H' { t' with heap := g3 } := J.landed nb f3.1 (up.trans u3) eos bare
    obtain ⟨o3, v3, ho3, hz3, hd3⟩ := f3.there
    have notIn : ∀ {hh : Heap} {o : Obj} {vs : Array Value}, hh.FunFrames B (X.env :: X.outer) → hh.get? a = some o → o.data = .fields vs → a ∉ frs (X.env :: X.outer) := fun {hh o vs} ff e dd hm => by
      obtain ⟨_, o', e', nf⟩ := ff.mem hm
      rw [e] at e'
      cases e'
      exact nf _ dd
    have nfr := notIn f3.2.2.1 ho3 hd3
    have nL : a ≠ X.env.locals := fun z => nfr (List.mem_filterMap.mpr ⟨X.env, List.mem_cons_self, by rw [hf, z]⟩)
    have nJ : sJ.heap.get? a = none := by
      cases q : sJ.heap.get? a with
      | none => rfl
      | some o =>
        have r := nb a o q (by rw [show frs (X.tr (X.pn ++ pins) _).stack = frs (X.env :: X.outer) by rw [← hs]]; exact nfr)
        rw [f3.2.1] at r
        cases r
    have n0 : X.s_0.heap.get? a = none := by
      cases q : X.s_0.heap.get? a with
      | none => rfl
      | some o =>
        obtain ⟨o', r⟩ := J.base.there a o q (by rw [hex]; exact List.not_mem_nil)
        rw [nJ] at r
        cases r
    have nP : ∀ p ∈ X.pn ++ pins, p.1 ≠ a := fun p hp z => by
      have r := (J.pin p hp).1
      rw [z, nJ] at r
      cases r
    refine wpAny_handleBy_cons (codeAny_handlers_test ?_) (by intro q; cases q)
    have lt : PySem.W.Looks (model X.prog X.w) g3 (typeOf (.ref a)) cls := fun A Q E s k q => wpAny_typeOf_ref (k _ _ ho3) (by rw [hz3.1]; exact q)
    have lm := PySem.W.exm_one (M := model X.prog X.w) (J3.kIn) lt hb1
    have S3 := suite0 J3 a
    have asks : ∀ {Q : Value → Shared → Prop} {E : Value → Shared → Prop}, Q c { t' with heap := g3 } → wpAny (model X.prog X.w) (X.A.mark (some (.ref a))) (eval (.Name x np) X.env) Q E { t' with heap := g3 } := fun {Q E} q => by
      obtain ⟨hg, hdbg, hm | ⟨hm, hv, hnn⟩⟩ := hc
      · exact ld_glob (X := X.suite a (X.pn ++ pins)) S3 hg hm q hdbg
      · exact ld_blt (X := X.suite a (X.pn ++ pins)) S3 hg hm hv q hnn hdbg
    refine asks (lm.here ?_)
    cases b with
    | true =>
      refine codeAny_handlers_suite_as ?_
      refine HandSPX.lands_againZ f3 fun g4 f4 u4 => ?_
      have J4 : Inv X pins σ' H' { t' with heap := g4 } := J.landed nb f4.1 ((up.trans u3).trans u4) eos bare
      obtain ⟨o4, v4, ho4, hz4, hd4⟩ := f4.there
      have S4 := suite0 (adopt J4 ho4 hz4 hd4 na n0 nL nP) a
      refine store_ok (X := X.suite a (X.pn ++ pins)) (v := .ref a) S4 hN hi isLoc rfl (fun s5 S5 => ?_) (.inr hln)
      refine wpAny_mono ((hsu a (X.pn ++ pins)).run [] s5 _ _ _ S5 (hyes rfl a na)) (fun fl s6 hfl => ?_) (fun _ _ z => False.elim z)
      have away : ∀ {σ6 : L2.St} {H6 : Hp} {Q : Shared → Prop}, Inv (X.suite a (X.pn ++ pins)) [] σ6 H6 s6 → (∀ s7, Inv X pins (σ6.set i none) H6 s7 → Q s7) →
          wpAny (model X.prog X.w) X.A (do bindName X.env n .none; unbindBehindTheSuite X.env n pos') (fun _ s7 => Q s7) X.xe s6 := fun {σ6 H6 Q} S6 hq => gone_ok (unsuite0 S6 ok0) hN hi hln hq
      cases fl with
      | next =>
        obtain ⟨σ6, H6, S6, q6⟩ := hfl
        exact away S6 fun s7 J7 => ⟨_, _, J7, q6⟩
      | brk =>
        obtain ⟨σ6, H6, S6, q6⟩ := hfl
        exact away S6 fun s7 J7 => ⟨_, _, J7, q6⟩
      | cont =>
        obtain ⟨σ6, H6, S6, q6⟩ := hfl
        exact away S6 fun s7 J7 => ⟨_, _, J7, q6⟩
      | ret u =>
        obtain ⟨v6, σ6, H6, S6, r6, q6⟩ := hfl
        exact away S6 fun s7 J7 => ⟨_, _, _, J7, r6, q6⟩
    | false =>
      show wpAny _ X.A (handleBy (.ref a) X.env []) _ _ _
      refine wpAny_handleBy_nil ?_
      obtain ⟨y1, y2, y3, oe, vs, T, oT, ts', he, hz, hd, h1, hr⟩ := id f3
      unfold PySem.passOn
      refine wpAny_bind (wpAny_field he hd h1 ?_)
      rw [if_neg (show ¬ ((Value.ref T == Value.none) = true) from by simp)]
      have onward : wpAny (model X.prog X.w) X.A (setFlight (.ref a) X.env.frame) (fun _ s4 => wpAny (model X.prog X.w) X.A (throw (.ref a) : Sem Flow) (SP X pins D) X.xe s4) X.xe { t' with heap := g3 } := by
        rw [hf]
        refine HandSPX.setFlight_upZ f3 fun g4 hh4 u4 => wpAny_throw (tk _ _ ?_)
        exact ⟨a, B, sJ, pins, σ', H', cls, d, rfl, J, nb, (up.trans u3).trans u4, .inr (.inr (by rw [hs]; exact hh4)), na, eos, bare, hno rfl⟩
      first
        | exact wpAny_bind (wpAny_pure (wpAny_bind onward))
        | exact wpAny_bind onward
end
end Bk
namespace Bk
open PySem PySem.Spec PyProof.Rows L2 Evl
section
variable {X : Cx} {pins : List (Addr × Obj)} {σ : L2.St} {H : Hp} {s : Shared}
/-- where the dict of a kept error stands, if there is one -/
def Dct (H : Hp) (d : Option Addr) : Prop := ∀ dd, d = some dd → ∃ fs, H dd = some (.xd fs)
/-- isinstance(x, c) of a kept error -/
def rIsK (K : PySem.W.Frag) : List V → Hp → VK → Prop := fun xs H Q => ∃ (a D : Addr) (d : Option Addr) (c : V) (cv : Value) (b : Bool), xs = [.ref a, c] ∧ ClsV c cv ∧ H a = some (ExK (.ref D) d a) ∧ Dct H d ∧ ExcC K D ∧ PySem.W.kitOne K (.ref D) cv = some b ∧ Q (.bl b) H
theorem call_isK {X : Cx} : CallR X (.builtin "isinstance") (rIsK X.K) := by
  intro pins s σ H xs us Q I r h
  obtain ⟨a, D, d, c, cv, b, rfl, hcv, ha, hd, ex, e, q⟩ := h
  cases r with
  | cons rx rr =>
    cases rr with
    | cons rt rr =>
      cases rr
      cases rx
      have ec := hcv.eq rt
      subst ec
      obtain ⟨oe, vs, hget, hz, hv⟩ := exk_at I.hok ha
      have hcl : (PySem.W.clsIn X.K D).isSome = true := by
        obtain ⟨cd, hc, _⟩ := PySem.W.any_some ex.hd
        rw [hc]
        rfl
      obtain ⟨od, J⟩ : ∃ od, PySem.W.InstAt s.heap a oe D od := by
        obtain ⟨oc, od, oda, osl⟩ := oe
        obtain ⟨h1, h2⟩ := hz
        dsimp only at h1 h2 hv
        subst h1 h2 hv
        cases od with
        | none => exact ⟨none, hget, rfl, rfl, trivial⟩
        | some dd =>
          obtain ⟨fs, hx⟩ := hd dd rfl
          have hx' : ObjOk X.prog X.w H s.heap dd (.xd fs) := I.hok dd _ hx
          obtain ⟨mA, hns, hr⟩ := hx'
          obtain ⟨od, ho, hl⟩ := lookIn_ns hns
          exact ⟨some od, hget, rfl, rfl, ho⟩
      exact PySem.W.kia_one (PySem.W.kitx_exc hcl ex.hg ex.hk ex.hs ex.ha ex.hn ex.ht ex.hm) I.kIn J e (fun z => nomatch z) fun tk => ⟨.bl b, H, I.kept (t' := tk) fun _ _ z => z, rfl, q⟩
/-- .. of anything -/
def rIsiX (K : PySem.W.Frag) : List V → Hp → VK → Prop := fun xs H Q => rIsi K xs H Q ∨ rIsK K xs H Q
theorem call_isX {X : Cx} {K : PySem.W.Frag} (h : X.K = K) : CallR X (.builtin "isinstance") (rIsiX K) := by
  subst h
  exact call_isi.or call_isK
/-- e.f, e a kept error -/
def tXk (K : PySem.W.Frag) (f : Str) (te : TE) : TE := fun σ H Q => te σ H fun x H1 => ∃ (a C dd : Addr) (fs : List (Str × V)) (v : V), x = .ref a ∧ H1 a = some (ExK (.ref C) (some dd) a) ∧ H1 dd = some (.xd fs) ∧ XfC K C ∧ PySem.W.findIn K (.ref C) f = some none ∧ fs.lookup f = some v ∧ Q v H1
theorem pe_xk {X : Cx} {K : PySem.W.Frag} {e : Expr} {te : TE} {pos : Pos} {n : Str} (hK : X.K = K) (he : PE X e te) (hb : attributeBase e n X.env (eval e X.env) = eval e X.env := by rfl) : PE X (.Attribute e n pos) (tXk K n te) := by
  subst hK
  refine ⟨fun pins s σ H Q I h => ?_⟩
  refine attr_of hb (thn (he.run pins s σ H _ I h) fun u s1 hh => ?_)
  obtain ⟨x, H1, I1, rx, a, C, dd, fs, v, rfl, ha, hx, T, hno, l, q⟩ := hh
  obtain rfl : u = Value.ref a := rx
  obtain ⟨oe, vs, hget, hz, hd⟩ := exk_at I1.hok ha
  have hx' : ObjOk X.prog X.w H1 s1.heap dd (.xd fs) := I1.hok dd _ hx
  obtain ⟨mA, hns, hr⟩ := hx'
  obtain ⟨od, ho, hl⟩ := lookIn_ns hns
  obtain ⟨u, hu, ru⟩ := RelO.some_of (v := v) (o := mA n) (by rw [← l]; exact hr n)
  have J : PySem.W.InstAt s1.heap a oe C (some od) := ⟨hget, hz.1, by unfold PySem.W.notCls; rw [hd] <;> rfl, by rw [hz.2]; exact ho⟩
  exact HandSPX.exc_get I1.kIn J T.ga T.gg T.exC (PySem.W.findObj_own T.hdC hno rfl (by rw [hl, hu])) (handed_of ru) ⟨v, H1, I1.tok _, ru, q⟩
end
section
variable {X : Cx} {CX : CXT} {k : Nat} {f : Addr} {fd : FuncData} {ps : List Str} {sp : Sp} {E : L2.St → XK} {x : Str} {p pos : Pos} {e : Expr} {es : List Expr} {t : TA} {kws : List Keyword} {tk : TA} {ks : List Str}
/-- f(e, ..) in a try -/
theorem runGS {pins : List (Addr × Obj)} {σ : L2.St} {H : Hp} {s : Shared} {Q : VK} {us : List Value} {vs : List V} (F : FnG X.prog X.w X.K X.mg X.base CX k f fd ps sp) (hr : Rm k X.A) (hb : Binds X.K fd ps []) (hx : PassesAt CX X σ (E σ))
    (I : Inv X pins σ H s) (r : Vals vs us) (h : sp vs H Q (E σ)) : wpAny (model X.prog X.w) X.A (call (.ref f) us) (EP X pins σ Q) X.xe s := by
  have hl : us.length = ps.length := by rw [← r.length]; exact F.len _ _ _ _ h
  have b := hb s us I.kIn (by rw [List.append_nil]; exact hl)
  rw [List.append_nil] at b
  refine wpAny_call (codeAny_mono (F.run X.A X.stack s H ⟨us, []⟩ us vs Q (E σ) hr I.env0 b r h) fun r s' hq => ?_)
  cases r with
  | error e => exact hx pins H s e s' I hq
  | ok fl =>
    cases fl with
    | ret u => exact I.after hq
    | next => exact hq.elim
    | brk => exact hq.elim
    | cont => exact hq.elim
theorem callGS (F : FnG X.prog X.w X.K X.mg X.base CX k f fd ps sp) (hr : Rm k X.A) (hg : Gl X x) (hm : X.mg x = some (.ref f)) (hk : PySem.W.keepIn X.K (.ref f) = true) (hb : Binds X.K fd ps []) (hx : ∀ σ, PassesAt CX X σ (E σ))
    (ha : PA X (e :: es) t) (hdb : (x == ("__debug__" : Str)) = false := by decide) (he : starEach (e :: es) X.env = (false, eval e X.env) :: starEach es X.env := by rfl) (hpl : (backTo pos (starEach es X.env)).any (·.1) = false := by rfl) :
    PE X (.Call (.Name x p) (e :: es) [] pos) (tCallS sp E t) := by
  refine ⟨fun pins s σ H Q I h => ?_⟩
  refine wpAny_Call_Name_kw (ld_glob I hg hm ?_ hdb)
  refine PySem.W.callWith_K (h₀ := X.base) I.ok.mod.kin hk (thn (ha.run pos pins s σ H _ I h) fun us s1 ⟨vs, H1, I1, r, q⟩ => ⟨I1.kIn, ?_⟩) he hpl
  exact runGS F hr hb (hx σ) I1 r q
end
/-! ### readings -/
theorem dct_none {H : Hp} : Dct H none := fun _ h => nomatch h
theorem dct_some {H : Hp} {dd : Addr} {fs : List (Str × V)} (h : H dd = some (.xd fs)) : Dct H (some dd) := fun b e => by
  cases e
  exact ⟨fs, h⟩
theorem Dct.ex {H H' : Hp} {d : Option Addr} (h : Dct H d) (e : Ex H H') : Dct H' d := fun dd z => by
  obtain ⟨fs, q⟩ := h dd z
  exact ⟨fs, e _ _ q⟩
theorem xfc_of {K : PySem.W.Frag} {C : Addr} (x : ExcC K C) : XfC K C := ⟨x.hg, x.hk, x.hs, x.hd⟩
section
variable {K : PySem.W.Frag} {σ : L2.St} {H : Hp} {ta tc te : TE} {a D : Addr} {d : Option Addr} {c : V} {cv : Value} {b : Bool}
theorem ev_isK (h : Ev ta σ H (.ref a)) (hc : ∀ H1, Ev tc σ H1 c) (cl : ClsV c cv) (ha : H a = some (ExK (.ref D) d a)) (hd : Dct H d) (ex : ExcC K D) (k : PySem.W.kitOne K (.ref D) cv = some b) : Ev (tCB (rIsiX K) (tCons ta (tCons tc tNil))) σ H (.bl b) := fun H1 e Q q =>
  h H1 e _ fun H2 e2 => hc H2 H2 (Ex.refl H2) _ fun H3 e3 => .inr ⟨a, D, d, c, cv, b, rfl, cl, ((e.trans e2).trans e3) _ _ ha, hd.ex ((e.trans e2).trans e3), ex, k, q H3 (e2.trans e3)⟩
theorem ev_isX {x : V} {t : Value} (h : Ev ta σ H x) (hc : ∀ H1, Ev tc σ H1 c) (cl : ClsV c cv) (ty : ∀ H1, Ex H H1 → TyX K H1 x t) (k : PySem.W.kitOne K t cv = some b) : Ev (tCB (rIsiX K) (tCons ta (tCons tc tNil))) σ H (.bl b) := fun H1 e Q q =>
  h H1 e _ fun H2 e2 => hc H2 H2 (Ex.refl H2) _ fun H3 e3 => .inl ⟨x, c, t, cv, b, rfl, cl, ty H3 ((e.trans e2).trans e3), k, q H3 (e2.trans e3)⟩
theorem ev_xk {f : Str} {C dd : Addr} {fs : List (Str × V)} {v : V} (h : Ev te σ H (.ref a)) (ha : H a = some (ExK (.ref C) (some dd) a)) (hd : H dd = some (.xd fs)) (x : ExcC K C) (hno : PySem.W.findIn K (.ref C) f = some none) (l : fs.lookup f = some v) : Ev (tXk K f te) σ H v := fun H1 e Q q =>
  h H1 e _ fun H2 e2 => ⟨a, C, dd, fs, v, rfl, (e.trans e2) _ _ ha, (e.trans e2) _ _ hd, xfc_of x, hno, l, q H2 e2⟩
end
end Bk
namespace Bk
open PySem PySem.Spec PyProof.Rows L2 Evl
theorem bt_ValueError : bootBuiltins "ValueError" = some (.type "ValueError") := by decide +kernel
theorem sup_mk {P : Program} {K : PySem.W.Frag} {h : Heap} {mg : Str → Option Value} {f : Str} {st : Stmt} {C fI : Addr} (X : K.In h) (G : h.Ns mainGlobals mg)
    {nm q : Str} {N : Addr} {bs bm : List Value} {sn : List Str} {sub : List Value} {ab : Bool} {col : Option Bool} {dd : Option Addr} {k0 k1 k2 k3 k5 : Option Value}
    (lk : K.lookup C = some (excClassObj nm q C N bs bm true sn sub ab col dd k0 k1 k2 k3 k5 "ValueError.__new__")) (rv : PySem.HandSPX.refsVE bm = true)
    (sa : PySem.W.findIn K (.ref C) "__setattr__" = some (some (.builtin "object.__setattr__"))) (exC : PySem.W.subIn K (.ref C) (.type "BaseException") = some true) (tyC : PySem.W.typeIn K (.ref C) = some (.type "type")) (kC : PySem.W.keepIn K (.ref C) = true)
    (iC : PySem.W.findIn K (.ref C) "__init__" = some (some (.ref fI))) (tI : PySem.W.typeIn K (.ref fI) = some (.type "function")) (nf : PySem.W.findIn K (.ref C) f = some none)
    (up : PySem.W.ks_superIn K C C "__init__" = some (some (.builtin "ValueError.__init__"))) (sB : PySem.W.subIn K (.ref C) (.type "ValueError") = some true) (sC : PySem.W.mroIn K C (.ref C) = some true)
    (no : PySem.W.nsIn K cStatics "thirdparty.any" = some none) (gS : PySem.W.nsIn K mainGlobals "super" = some none)
    {qual : Str} {oc kV doc pm ct : Value} {od an : Option Addr} {cda cc : Addr} {osl csl ccs : Array (Option Value)} {cl ccl : Value} {cld cdd : Option Addr} {vs : Array Value} {file : Str} {tf : Tok}
    (lI : K.lookup fI = some ⟨oc, od, .func (PySem.W.fnX "__init__" qual (defArgs st) (defBody st) (defScope st) [("__class__", cc)] .none kV doc pm an (.ref cda) ct), osl⟩)
    (cI : PySem.W.codeIn K (.ref cda) qual = true) (lC : K.lookup cc = some ⟨cl, cld, .cell (some (.ref C)), csl⟩) (lD : K.lookup cda = some ⟨ccl, cdd, .fields vs, ccs⟩) (hv : vs[2]? = some (.str file tf)) (hf : ((P.main.file : Str) == file) = true)
    (top : (P.main.scope.names.lookup ("super" : Str)).isSome = false) (arg : ∃ ar, ((defArgs st).posonlyargs ++ (defArgs st).args).head? = some ar ∧ ar.arg = "self")
    (body : ∃ p0 p1 p2 p3 p4 p5 p6 p7 p8 p9 m j, defBody st = [.Expr (.Call (.Attribute (.Call (.Name "super" p0) [] [] p1) "__init__" p2) [.Constant (.str m) j p3] [] p4) p5, .Assign [.Attribute (.Name "self" p6) f p7] (.Name f p8) p9] ∧
      (∀ env, ∃ pl : Sem Bool, eval (.Call (.Attribute (.Call (.Name "super" p0) [] [] p1) "__init__" p2) [.Constant (.str m) j p3] [] p4) env = (do
        let ov ← attributeBase (.Call (.Name "super" p0) [] [] p1) "__init__" env (eval (.Call (.Name "super" p0) [] [] p1) env)
        standAt p2.atName
        let (g, first) ← holding [ov] (getMethod ov "__init__" pl)
        callWith p4 g first (backTo p4 (starEach [.Constant (.str m) j p3] env)) [])) ∧
      ∀ env, swapsWith (.Name f p8) (some (.Attribute (.Name "self" p6) f p7)) p9.line env = pure false)
    (sc : SupS f (defScope st)) :
    SupC P K mg C fI (PySem.W.fnX "__init__" qual (defArgs st) (defBody st) (defScope st) [("__class__", cc)] .none kV doc pm an (.ref cda) ct) f st :=
  { ox := ⟨⟨nm, q, N, bs, bm, sn, sub, ab, col, dd, k0, k1, k2, k3, k5, lk, rv⟩, sa, exC, tyC, kC⟩
    iC := iC
    tI := tI
    nf := nf
    up := up
    sB := sB
    sC := sC
    no := no
    gS := PySem.W.mg_none_of X G gS
    fn := ⟨qual, oc, od, kV, doc, pm, an, cda, ct, cc, osl, cl, cld, csl, ccl, cdd, ccs, vs, file, tf, rfl, lI, cI, lC, lD, hv, hf⟩
    top := top
    arg := arg
    body := body
    sc := sc }
/-! ### values of which something is known, with the heap; repr of any data -/
def EvP (te : TE) (σ : L2.St) (H : Hp) (P : V → Hp → Prop) : Prop := ∀ H1, Ex H H1 → ∀ Q : VK, (∀ v H2, Ex H1 H2 → P v H2 → Q v H2) → te σ H1 Q
def SpP (sp : Sp) (vs : List V) (H : Hp) (P : V → Hp → Prop) : Prop := ∀ H1, Ex H H1 → ∀ Q : VK, (∀ v H2, Ex H1 H2 → P v H2 → Q v H2) → ∀ E : XK, sp vs H1 Q E
def RetP (P : V → Hp → Prop) (H : Hp) (Q : VK) : Prop := ∀ v H2, Ex H H2 → P v H2 → Q v H2
mutual
theorem Dp.ex {K : PySem.W.Frag} {H H' : Hp} (e : Ex H H') : ∀ (d : PyData) (v : V), Dp K H v d → Dp K H' v d
  | .none, _, h => by cases h; exact .non
  | .bool _, _, h => by cases h; exact .bl _
  | .int _, _, h => by cases h; exact .int _
  | .str _, _, h => by cases h; exact .str _
  | .list ds, _, h => by
    cases h with
    | lst h1 h2 => exact .lst (ex_l e h1) (DpAll.ex e ds _ h2)
  | .tuple ds, _, h => by
    cases h with
    | tup h1 h2 => exact .tup (ex_t e h1) (DpAll.ex e ds _ h2)
  | .dict _, _, h => by cases h
theorem DpAll.ex {K : PySem.W.Frag} {H H' : Hp} (e : Ex H H') : ∀ (ds : List PyData) (vs : List V), DpAll K H vs ds → DpAll K H' vs ds
  | [], _, h => by cases h; exact .nil
  | d :: ds, _, h => by
    cases h with
    | cons h1 h2 => exact .cons (Dp.ex e d _ h1) (DpAll.ex e ds _ h2)
end
/-- what repr asks of data -/
def Sho (d : PyData) : Prop := d.showable = true ∧ d.hasDict = false ∧ d.depth ≤ 60 ∧ d.shown.length ≤ sizeLine
def rReprX (K : PySem.W.Frag) : List V → Hp → VK → Prop := fun xs H Q => ∃ (x : V) (d : PyData), xs = [x] ∧ Dp K H x d ∧ Sho d ∧ (∀ y, d ≠ .str y) ∧ Q (.str d.shown) H
theorem call_reprX {X : Cx} {K : PySem.W.Frag} (hK : X.K = K) (hg : X.A.guards = some []) (hu : X.A.units + 64 < cLine) : CallR X (.builtin "repr") (rReprX K) := by
  subst hK
  intro pins s σ H xs us Q I r h
  obtain ⟨x, d, rfl, hd, ⟨hs, hn, hp, hz⟩, no, q⟩ := h
  obtain ⟨u, rfl, ru⟩ := vals1 r
  obtain ⟨as, rd⟩ := Dp.reads I d x u hd ru
  have go : ∀ a, u = Value.ref a → wpAny (model X.prog X.w) X.A (call (.builtin "repr") [u]) (EP X pins σ Q) X.xe s := fun a e => by
    subst e
    refine repr_of_reads' rd hs (fun z => by rw [hn] at z; cases z) hg (by omega) (fun _ _ e => e) (fun h' u tk hk => ?_) hz
    exact ⟨.str d.shown, H, I.kept hk, ⟨u, rfl⟩, q⟩
  cases hd with
  | non =>
    cases (show u = Value.none from ru)
    exact PySem.P.repr_of_none ⟨.str "None", H, I.tok _, ⟨_, rfl⟩, q⟩
  | bl b =>
    cases (show u = Value.bool b from ru)
    cases b
    · exact PySem.P.repr_of_bool ⟨.str "False", H, I.tok _, ⟨_, rfl⟩, q⟩
    · exact PySem.P.repr_of_bool ⟨.str "True", H, I.tok _, ⟨_, rfl⟩, q⟩
  | int i =>
    obtain ⟨t, rfl⟩ := ru
    exact PySem.P.repr_of_int (by simpa [PyData.showable] using hs) ⟨.str _, H, I.tok _, ⟨_, rfl⟩, q⟩
  | str y => exact (no y rfl).elim
  | lst _ _ => exact go _ ru
  | tup _ _ => exact go _ ru
/-- evaluates to data -/
def EvD (K : PySem.W.Frag) (te : TE) (σ : L2.St) (H : Hp) (d : PyData) : Prop := EvP te σ H fun v H1 => Dp K H1 v d
def barD : Option (Nat × Str) → PyData
  | none => .none
  | some (n, s) => .tuple [.int (n : Int), .str s]
section
variable {K : PySem.W.Frag} {σ : L2.St} {H : Hp} {ta tb te : TE} {t : TA} {tt : TT} {sp : Sp} {E : XK} {vs xs : List V} {b : Option (Nat × Str)} {D : Ends} {tz : TS} {i : Nat} {P : V → Hp → Prop} {d : PyData}
theorem ep_call (h : EvA t σ H vs) (hs : SpP sp (vs ++ []) H P) : EvP (tCall sp [] E t) σ H P := fun H1 e Q q =>
  h H1 e _ fun H2 e2 => hs H2 (e.trans e2) Q (fun v H3 e3 h3 => q v H3 (e2.trans e3) h3) E
theorem q_asgP (h : EvP te σ H P) (k : ∀ v H1, Ex H H1 → P v H1 → tz D (σ.set i (some v)) H1) : tSeq (tAsg te (gName i)) tz D σ H :=
  h H (Ex.refl H) _ fun v H1 e1 h1 => k v H1 e1 h1
theorem EvP.mono {P' : V → Hp → Prop} (h : EvP te σ H P) (k : ∀ v H1, P v H1 → P' v H1) : EvP te σ H P' := fun H1 e Q q => h H1 e Q fun v H2 e2 p => q v H2 e2 (k v H2 p)
theorem ed_var {j : Nat} {v : V} (h : σ[j]? = some (some v)) (hd : Dp K H v d) : EvD K (tVar j) σ H d := fun H1 e Q q => ⟨v, h, q v H1 (Ex.refl H1) (Dp.ex e d v hd)⟩
theorem ed_L {ns : List Int} (h : EvL te σ H (vi ns)) : EvD K te σ H (.list (di ns)) := fun H1 e Q q => h H1 e Q fun p H2 _ e2 h2 => q _ H2 e2 (dp_lst (sq_of h2))
theorem ed_B (h : EvB te σ H b) : EvD K te σ H (barD b) := fun H1 e Q q => h H1 e Q fun v H2 e2 h2 => q v H2 e2 (by
  cases b with
  | none =>
    have h2' : v = .non := h2
    rw [h2']
    exact .non
  | some x =>
    obtain ⟨p, e1, g⟩ := h2
    rw [e1]
    exact .tup (st_of g) (.cons (.int _) (.cons (.str _) .nil)))
theorem ep_L (h : EvL te σ H xs) (k : ∀ p H1 H2, Ex H H1 → H1 p = none → Ex H1 H2 → H2 p = some (.lst xs) → P (.ref p) H2) : EvP te σ H P := fun H1 e Q q => h H1 e Q fun p H2 hp e2 h2 => q _ H2 e2 (k p H1 H2 e hp e2 h2)
theorem ep_U (h : EvU te σ H xs) (k : ∀ p H1 H2, Ex H H1 → H1 p = none → Ex H1 H2 → H2 p = some (.tup xs) → P (.ref p) H2) : EvP te σ H P := fun H1 e Q q => h H1 e Q fun p H2 hp e2 h2 => q _ H2 e2 (k p H1 H2 e hp e2 h2)
theorem ed_ifT (h : EvT tt σ H true) (k : ∀ H1, Ex H H1 → EvP ta σ H1 P) : EvP (tIf tt ta tb) σ H P := fun H1 e Q q =>
  h H1 e _ fun H2 e2 => iteT (k H2 (e.trans e2) H2 (Ex.refl H2) Q fun v H3 e3 p => q v H3 (e2.trans e3) p)
theorem ed_ifF (h : EvT tt σ H false) (k : ∀ H1, Ex H H1 → EvP tb σ H1 P) : EvP (tIf tt ta tb) σ H P := fun H1 e Q q =>
  h H1 e _ fun H2 e2 => iteF (k H2 (e.trans e2) H2 (Ex.refl H2) Q fun v H3 e3 p => q v H3 (e2.trans e3) p)
theorem ed_U {ds : List PyData} (h : EvU te σ H vs) (hd : DpAll K H vs ds) : EvD K te σ H (.tuple ds) := fun H1 e Q q => h H1 e Q fun p H2 _ e2 h2 => q _ H2 e2 (.tup (st_of h2) (DpAll.ex (e.trans e2) ds vs hd))
theorem ev_reprX (h : EvD K te σ H d) (hs : Sho d) (no : ∀ y, d ≠ .str y) : Ev (tCB (rReprX K) (tCons te tNil)) σ H (.str d.shown) := fun H1 e Q q =>
  h H1 e _ fun v H2 e2 hd => ⟨v, d, rfl, hd, hs, no, q H2 e2⟩
/-- x, y, z = (value, new list, first bar), by a tuple -/
theorem q_tup3B {j l : Nat} {tc : TE} {x : V} (h1 : Ev ta σ H x) (h2 : EvL tb σ H xs) (h3 : EvB tc σ H b) (k : ∀ p v H1, H p = none → Ex H H1 → H1 p = some (.lst xs) → BarV b v H1 → tz D (((σ.set i (some x)).set j (some (.ref p))).set l (some v)) H1) :
    tSeq (tAsg (tTup (tCons ta (tCons tb (tCons tc tNil)))) (gTup K 3 (gCons (gName i) (gCons (gName j) (gCons (gName l) gNil))))) tz D σ H :=
  h1 H (Ex.refl H) _ fun H1 e1 => h2 H1 e1 _ fun p H2 hp e2 g2 => h3 H2 (e1.trans e2) _ fun v H3 e3 g3 => ⟨sz_of (by show 3 ≤ 100000; decide), fun r hr => ⟨r, _, rfl, st_of upd_same, rfl, _, _, rfl, _, _, rfl, _, _, rfl, rfl,
    k p v _ (fresh_back e1 hp) (((e1.trans e2).trans e3).trans (Ex.new hr)) (Ex.new hr _ _ (e3 _ _ g2)) (g3.ex (Ex.new hr))⟩⟩
end
theorem sho_list {ns : List Int} (hw : wide 1900 ns) (hl : ns.length ≤ 4000) : Sho (.list (di ns)) := by
  refine ⟨by simp [PyData.showable, showable_ints (hw.mono (by decide))], by simp [PyData.hasDict, noDict_ints], by simp [PyData.depth, depthAll_ints], ?_⟩
  rw [PyData.shown]
  have := listText_le (shown_le (by decide) hw)
  rw [shownAll_ints, List.length_map, ← shownAll_ints] at this
  rw [sizeLine_eq]
  omega
theorem sho_none : Sho .none := ⟨rfl, rfl, by decide, by
  rw [PyData.shown]
  exact sz_of (by decide)⟩
theorem tup2_sho {n : Int} {d : PyData} (hn : n.natAbs.log2 < 1900) (h1 : d.showable = true) (h2 : d.hasDict = false) (h3 : d.depth = 0) (h4 : d.shown.length ≤ 40) : Sho (.tuple [.int n, d]) := by
  refine ⟨by simp [PyData.showable, PyData.showableAll, h1]; omega, by simp [PyData.hasDict, PyData.hasDictAll, h2], by simp [PyData.depth, PyData.depthAll, h3], ?_⟩
  rw [PyData.shown]
  have hi : ((toString n : Str)).length ≤ 1901 := by
    rw [PySem.ofString_length]
    exact int_text_length_le (by decide) hn
  have := tupleText_le (ts := PyData.shownAll [.int n, d]) (L := 1901) (by
    intro t ht
    simp only [PyData.shownAll, List.mem_cons, List.not_mem_nil, or_false] at ht
    rcases ht with e | e
    · rw [e, PyData.shown]
      exact hi
    · rw [e]
      omega)
  have e2 : (PyData.shownAll [.int n, d]).length = 2 := rfl
  rw [e2] at this
  rw [sizeLine_eq]
  omega
theorem small_log {n : Nat} (h : n < 2 ^ 100) : ((n : Int)).natAbs.log2 < 1900 := Nat.lt_of_lt_of_le (PySem.Flt.log2_lt_of (k := 100) (by decide) (by rw [Int.natAbs_natCast]; exact h)) (by decide)
theorem sho_bar {b : Option (Nat × Str)} (h : ∀ n s, b = some (n, s) → n < 2 ^ 100 ∧ (s = "rest" ∨ s = "below")) : Sho (barD b) := by
  cases b with
  | none => exact sho_none
  | some x =>
    obtain ⟨n, s⟩ := x
    obtain ⟨h1, h2⟩ := h n s rfl
    refine tup2_sho (small_log h1) rfl rfl rfl ?_
    rcases h2 with e | e <;> subst e <;> (rw [PyData.shown]; decide +kernel)
end Bk
namespace Bk
open PySem PySem.Spec PyProof.Rows L2 Evl
/-! ### for x in reversed(a tuple); any of a tuple of numbers; drawn lists and tuples in pairs -/
theorem pi_revAK {X : Cx} {K : PySem.W.Frag} {tg e : Expr} {te : TE} {p pos : Pos} (h : X.K = K) (hg : Gl X "reversed") (hm : X.mg "reversed" = none) (he : PE X e te) (hs : starEach [e] X.env = (false, eval e X.env) :: starEach [] X.env := by rfl) : PI X tg (.Call (.Name "reversed" p) [e] [] pos) (RT.iRevA K te) := by
  subst h
  exact RT.pi_revA hg hm he hs
section
variable {K : PySem.W.Frag} {σ : L2.St} {H : Hp} {ta tb te tl ti : TE} {t : TT} {D : Ends} {tu tz : TS}
theorem s_forRevT {a : Addr} {xs : List V} {j : Nat} (h : Ev tl σ H (.ref a)) (hx : SqT K H a xs) (Pv : Nat → L2.St → Hp → Prop) (h0 : ∀ H1, Ex H H1 → Pv 0 σ H1) (hl : ∀ i σ' H', i ≤ xs.length → Pv i σ' H' → SqT K H' a xs)
    (hs : ∀ i x σ' H', xs[xs.length - 1 - i]? = some x → i < xs.length → Pv i σ' H' → tu { D with nx := Pv (i + 1), ct := Pv (i + 1), bk := D.nx } (σ'.set j (some x)) H') (hd : ∀ σ' H', Pv xs.length σ' H' → D.nx σ' H') : tFor (RT.iRevA K tl) (gName j) tu D σ H :=
  h H (Ex.refl H) _ fun H1 e => ⟨a, xs, rfl, Or.inr ⟨ex_t e hx, by
    refine ⟨fun i m σ H => m = xs.length - i ∧ i ≤ xs.length ∧ Pv i σ H, ⟨xs.length, rfl, Nat.zero_le _, h0 H1 e⟩, ?_⟩
    rintro i m σ' H' ⟨rfl, hi, p⟩
    have q := hl i σ' H' hi p
    by_cases hlt : i < xs.length
    · refine .inr ⟨⟨hlt, xs, xs[xs.length - 1 - i], q, List.getElem?_eq_getElem (by omega)⟩, Pv (i + 1), fun σ2 H2 p' => ⟨xs.length - (i + 1), by omega, rfl, hlt, p'⟩, ?_⟩
      rintro x H2 ⟨rfl, gx⟩
      exact hs i x σ' H2 (gx xs q) hlt p
    · have ei : i = xs.length := by omega
      subst ei
      exact .inl ⟨Nat.le_refl _, hd σ' H' p⟩⟩⟩
theorem q_forRevT {a : Addr} {xs : List V} {j : Nat} (h : Ev tl σ H (.ref a)) (hx : SqT K H a xs) (Pv : Nat → L2.St → Hp → Prop) (h0 : ∀ H1, Ex H H1 → Pv 0 σ H1) (hl : ∀ i σ' H', i ≤ xs.length → Pv i σ' H' → SqT K H' a xs)
    (hs : ∀ i x σ' H', xs[xs.length - 1 - i]? = some x → i < xs.length → Pv i σ' H' → tu { D with nx := Pv (i + 1), ct := Pv (i + 1), bk := tz D } (σ'.set j (some x)) H') (hd : ∀ σ' H', Pv xs.length σ' H' → tz D σ' H') : tSeq (tFor (RT.iRevA K tl) (gName j) tu) tz D σ H :=
  s_forRevT (D := { D with nx := tz D }) h hx Pv h0 hl hs hd
def rAnyT (K : PySem.W.Frag) : List V → Hp → VK → Prop := fun vs H Q => ∃ (a : Addr) (ns : List Int), vs = [V.ref a] ∧ SqT K H a (vi ns) ∧ Q (.bl (ns.any fun n => n != 0)) H
theorem plain_ints : ∀ ns : List Int, PyData.plainAll (di ns) = true
  | [] => rfl
  | n :: r => by
    show PyData.plainAll (PyData.int n :: di r) = true
    rw [PyData.plainAll, plain_ints r]
    rfl
theorem call_anyT {X : Cx} (h : X.K = K) (hc : X.calm = true) : CallR X (.builtin "any") (rAnyT K) := by
  subst h
  intro pins s σ H vs us Q I r h
  obtain ⟨a, ns, rfl, hs, q⟩ := h
  obtain ⟨its, rv, ht, _⟩ := I.tuple hs
  obtain ⟨as, ra⟩ := Dp.readsAll I (di ns) (vi ns) its (dpAll_ints X.K H ns) rv
  rw [Vals.ref1 r]
  obtain ⟨o, ho, hcl, n, hd⟩ := ht
  refine PySem.W.any_tuple_data (xs := di ns) (as := as) (I.ok.hd hc) ⟨o, ho, hcl, n, hd⟩ (by simpa using ra) (plain_ints ns) ?_ fun h' tk hk => ?_
  · intro x hx
    obtain ⟨m, _, rfl⟩ := List.mem_map.mp hx
    trivial
  · refine ⟨.bl (ns.any fun n => n != 0), H, I.kept hk, ?_, q⟩
    show Value.bool _ = Value.bool _
    rw [List.any_map]
    rfl
theorem ev_anyT {a : Addr} {ns : List Int} (ha : Ev ta σ H (.ref a)) (h : SqT K H a (vi ns)) : Ev (tCB (rAnyT K) (tCons ta tNil)) σ H (.bl (ns.any fun n => n != 0)) := fun H1 e Q q =>
  ha H1 e _ fun H2 e2 => ⟨a, ns, rfl, ex_t (e.trans e2) h, q H2 e2⟩
end
section
variable {K : PySem.W.Frag} {σ : L2.St} {H : Hp} {ta tb te tl ti : TE} {a : Addr} {d d1 d2 n : Nat} {D : Ends} {tz : TS} {x z : V} {sp : Sp} {E : XK}
/-- x, y = drawn tuple, drawn tuple -/
theorem qw_parUU {i j : Nat} {PA PB : List V → Prop} (h1 : EvWU a d1 ta σ H PA) (h2 : EvWU a d2 tb σ H PB) (w : Well H a n) (hl : n + (d1 + d2) ≤ 2 ^ 50)
    (k : ∀ p q xs ys H1, H p = none → H q = none → p ≠ q → But a H H1 → Well H1 a (n + (d1 + d2)) → H1 p = some (.tup xs) → H1 q = some (.tup ys) → PA xs → PB ys → tz D ((σ.set i (some (.ref p))).set j (some (.ref q))) H1) :
    tSeq (tPar i j (tCons ta (tCons tb tNil))) tz D σ H :=
  h1 n H (But.refl a H) w (by omega) _ fun p xs H2 hp b2 w2 g2 pa => h2 (n + d1) H2 b2 w2 (by omega) _ fun q ys H3 hq b3 w3 g3 pb => ⟨_, _, rfl, by
    refine k p q xs ys _ hp (but_free b2 w2 hq) (ne_of_none g2 hq) (b2.trans b3) ?_ (b3 _ _ (w.ne hp) g2) g3 pa pb
    rw [← Nat.add_assoc]
    exact w3⟩
theorem qw_parLL {i j : Nat} {PA PB : List V → Prop} (h1 : EvWL a d1 ta σ H PA) (h2 : EvWL a d2 tb σ H PB) (w : Well H a n) (hl : n + (d1 + d2) ≤ 2 ^ 50)
    (k : ∀ p q xs ys H1, H p = none → H q = none → p ≠ q → But a H H1 → Well H1 a (n + (d1 + d2)) → H1 p = some (.lst xs) → H1 q = some (.lst ys) → PA xs → PB ys → tz D ((σ.set i (some (.ref p))).set j (some (.ref q))) H1) :
    tSeq (tPar i j (tCons ta (tCons tb tNil))) tz D σ H :=
  h1 n H (But.refl a H) w (by omega) _ fun p xs H2 hp b2 w2 g2 pa => h2 (n + d1) H2 b2 w2 (by omega) _ fun q ys H3 hq b3 w3 g3 pb => ⟨_, _, rfl, by
    refine k p q xs ys _ hp (but_free b2 w2 hq) (ne_of_none g2 hq) (b2.trans b3) ?_ (b3 _ _ (w.ne hp) g2) g3 pa pb
    rw [← Nat.add_assoc]
    exact w3⟩
/-- x, y = new tuple, new list -/
theorem q_parUL {i j : Nat} {xs ys : List V} (h1 : EvU ta σ H xs) (h2 : ∀ p H1, H p = none → Ex H H1 → H1 p = some (.tup xs) → EvL tb σ H1 ys) (k : ∀ p q H1, H p = none → H q = none → p ≠ q → Ex H H1 → H1 p = some (.tup xs) → H1 q = some (.lst ys) → tz D ((σ.set i (some (.ref p))).set j (some (.ref q))) H1) :
    tSeq (tPar i j (tCons ta (tCons tb tNil))) tz D σ H :=
  h1 H (Ex.refl H) _ fun p H2 hp e2 g2 => h2 p H2 hp e2 g2 H2 (Ex.refl H2) _ fun q H3 hq e3 g3 => ⟨_, _, rfl, k p q H3 hp (fresh_back e2 hq) (ne_of_none g2 hq) (e2.trans e3) (e3 _ _ g2) g3⟩
/-- x, y = (c, d) by a tuple -/
theorem q_tupVV {i j : Nat} {x y : V} (h1 : Ev ta σ H x) (h2 : Ev tb σ H y) (k : ∀ H1, Ex H H1 → tz D ((σ.set i (some x)).set j (some y)) H1) :
    tSeq (tAsg (tTup (tCons ta (tCons tb tNil))) (gTup K 2 (gCons (gName i) (gCons (gName j) gNil)))) tz D σ H :=
  h1 H (Ex.refl H) _ fun H2 e2 => h2 H2 e2 _ fun H3 e3 => ⟨sz_of (by show 2 ≤ 100000; decide), fun r hr => ⟨r, _, rfl, st_of upd_same, rfl, _, _, rfl, _, _, rfl, rfl, k _ ((e2.trans e3).trans (Ex.new hr))⟩⟩
/-- a new list against one that is there -/
theorem ev_neLV {p : Addr} {ns ms : List Int} (ha : EvL ta σ H (vi ns)) (hb : Ev tb σ H (.ref p)) (h : SqL K H p (vi ms)) : Ev (tOp (rNeD K) ta tb) σ H (.bl (!decide (ns = ms))) := fun H1 e Q k =>
  ha H1 e _ fun p H2 hp e2 h2 => hb H2 (e.trans e2) _ fun H3 e3 => rv_neL (sq_of (e3 _ _ h2)) (ex_l ((e.trans e2).trans e3) h) H3 (Ex.refl H3) Q fun H4 e4 => k H4 ((e2.trans e3).trans e4)
theorem ev_eqLV {p : Addr} {ns ms : List Int} (ha : EvL ta σ H (vi ns)) (hb : Ev tb σ H (.ref p)) (h : SqL K H p (vi ms)) : Ev (tOp (rEqD K) ta tb) σ H (.bl (decide (ns = ms))) := fun H1 e Q k =>
  ha H1 e _ fun p H2 hp e2 h2 => hb H2 (e.trans e2) _ fun H3 e3 => rv_eqL (sq_of (e3 _ _ h2)) (ex_l ((e.trans e2).trans e3) h) H3 (Ex.refl H3) Q fun H4 e4 => k H4 ((e2.trans e3).trans e4)
/-- f(new list, x), a new list -/
theorem el_callL1 {xs zs : List V} (h : EvL ta σ H xs) (h2 : ∀ p H1, Ex H H1 → H1 p = some (.lst xs) → Ev tb σ H1 x) (hs : ∀ p H1, Ex H H1 → H1 p = some (.lst xs) → SpL sp [.ref p, x] H1 zs) : EvL (tCall sp [] E (tCons ta (tCons tb tNil))) σ H zs := fun H1 e Q q =>
  h H1 e _ fun p H2 hp e2 g2 => h2 p H2 (e.trans e2) g2 H2 (Ex.refl H2) _ fun H3 e3 => hs p H3 ((e.trans e2).trans e3) (e3 _ _ g2) H3 (Ex.refl H3) Q (fun r H4 hr e4 h4 => q r H4 (fresh_back (e2.trans e3) hr) ((e2.trans e3).trans e4) h4) E
/-- f(x, new tuple), a new list -/
theorem el_callVU {xs zs : List V} (h : Ev ta σ H x) (h2 : EvU tb σ H xs) (hs : ∀ p H1, Ex H H1 → H1 p = some (.tup xs) → SpL sp [x, .ref p] H1 zs) : EvL (tCall sp [] E (tCons ta (tCons tb tNil))) σ H zs := fun H1 e Q q =>
  h H1 e _ fun H2 e2 => h2 H2 (e.trans e2) _ fun p H3 hp e3 g3 => hs p H3 ((e.trans e2).trans e3) g3 H3 (Ex.refl H3) Q (fun r H4 hr e4 h4 => q r H4 (fresh_back (e2.trans e3) hr) ((e2.trans e3).trans e4) h4) E
/-- [..][k] of a new list -/
theorem ev_ixN {xs : List V} {k : Int} (ha : EvL ta σ H xs) (hb : ∀ H1, Ex H H1 → Ev tb σ H1 (.int k)) (hx : atI xs k = some z) : Ev (tOp (rIxL K) ta tb) σ H z :=
  ev_opL1 ha hb fun p H1 h1 _ => rv_ixL (sq_of h1) hx
/-- xs[-1] = drawn -/
theorem sw_setLast {xs : List V} {l : Addr} {P : V → Prop} (hl : H l = some (.lst xs)) (nl : l ≠ a) (h : EvW a d te σ H P) (ho : ∀ H1, Ev ta σ H1 (.ref l)) (hi : ∀ H1, Ev tb σ H1 (.int (-1))) (hj : 0 < xs.length) (w : Well H a n) (hn : n + d ≤ 2 ^ 50)
    (k : ∀ v H1, But a H H1 → Well H1 a (n + d) → P v → D.nx σ (upd H1 l (.lst (xs.set (xs.length - 1) v)))) : tAsg te (gSub ta tb rSetL) D σ H :=
  h n H (But.refl a H) w hn _ fun v H1 b1 w1 pv => ho H1 H1 (Ex.refl H1) _ fun H2 e2 => hi H2 H2 (Ex.refl H2) _ fun H3 e3 =>
    ⟨l, xs, (-1 : Int), xs.length - 1, rfl, rfl, (e2.trans e3) _ _ (b1 _ _ nl hl), (by
      unfold ixN
      rw [if_neg (by decide), if_pos (by omega)]
      congr 1
      omega), k v H3 (b1.trans (But.ex (e2.trans e3))) (w1.ex (e2.trans e3)) pv⟩
end
section
variable {K : PySem.W.Frag} {σ : L2.St} {H : Hp} {ta tb te tl ti : TE} {a : Addr} {d n : Nat} {D : Ends} {tu tz : TS}
theorem s_forTn {a : Addr} {xs : List V} {j : Nat} (h : Ev tl σ H (.ref a)) (hx : SqT K H a xs) (Pv : Nat → L2.St → Hp → Prop) (h0 : ∀ H1, Ex H H1 → Pv 0 σ H1) (hl : ∀ i σ' H', i ≤ xs.length → Pv i σ' H' → SqT K H' a xs)
    (hs : ∀ i x σ' H', xs[i]? = some x → Pv i σ' H' → tu { D with nx := Pv (i + 1), ct := Pv (i + 1), bk := D.nx } (σ'.set j (some x)) H') (hd : ∀ σ' H', Pv xs.length σ' H' → D.nx σ' H') : tFor (iTup K tl) (gName j) tu D σ H := s_forT h hx Pv h0 hl hs hd
theorem q_forTn {a : Addr} {xs : List V} {j : Nat} (h : Ev tl σ H (.ref a)) (hx : SqT K H a xs) (Pv : Nat → L2.St → Hp → Prop) (h0 : ∀ H1, Ex H H1 → Pv 0 σ H1) (hl : ∀ i σ' H', i ≤ xs.length → Pv i σ' H' → SqT K H' a xs)
    (hs : ∀ i x σ' H', xs[i]? = some x → Pv i σ' H' → tu { D with nx := Pv (i + 1), ct := Pv (i + 1), bk := tz D } (σ'.set j (some x)) H') (hd : ∀ σ' H', Pv xs.length σ' H' → tz D σ' H') : tSeq (tFor (iTup K tl) (gName j) tu) tz D σ H := s_forTn (D := { D with nx := tz D }) h hx Pv h0 hl hs hd
theorem sw_retL {P : List V → Prop} (h : EvWL a d te σ H P) (w : Well H a n) (l : n + d ≤ 2 ^ 50) (k : ∀ p xs H1, H p = none → But a H H1 → Well H1 a (n + d) → H1 p = some (.lst xs) → P xs → D.rt (.ref p) H1) : tRet te D σ H :=
  h n H (But.refl a H) w l _ fun p xs H2 hp b2 w2 h2 px => k p xs H2 hp b2 w2 h2 px
end
theorem cut_drop (xs : List V) (m : Nat) : cutV xs (some (m : Int)) none = xs.drop m := by
  unfold cutV
  rw [HT.sIx_none, HT.sIx_nat]
  by_cases h : m ≤ xs.length
  · rw [Nat.min_eq_left h, List.take_of_length_le (by rw [List.length_drop]; exact Nat.le_refl _)]
  · rw [Nat.min_eq_right (by omega), List.drop_of_length_le (Nat.le_refl _), List.drop_of_length_le (by omega), List.take_nil]
end Bk
namespace Bk
open PySem PySem.Spec PyProof.Rows L2 Evl
/-! ### tuple * int, also once and never -/
theorem tuple_mulW1 (l : Addr) (items : Array Value) (n : Nat) (dd : Option Addr) (sl : Array (Option Value)) (x : Int) (u : Tok) (c0 : (decide (x < -(2 ^ 63)) || decide (x ≥ 2 ^ 63)) = false) (c1 : (items.isEmpty || x == 1) = true) :
    Meets (Builtin.«tuple.__mul__» ⟨[.ref l, .int x u], []⟩) (fun _ R s => s.heap.get? l = some { cls := .type "tuple", dict := dd, data := .seq items n, slots := sl } ∧
      R (.ok (.ret (Value.ref l))) s) :=
  .of_wp fun prog w A R s h => by
    obtain ⟨hp, g, d, tk, os⟩ := s
    obtain ⟨hl, h⟩ := h
    have f1 := AutoSeq1.idx_int
    wp_walk using wpAny_loadPart' hl
    repeat (first
      | (refine wpAny_ite_false (decide_eq_false (by rw [c0]; exact Bool.false_ne_true)) ?_; wp_walk using wpAny_loadPart' hl)
      | (refine wpAny_ite_true (decide_eq_true (by rw [c1])) ?_; wp_walk using wpAny_loadPart' hl))
    exact ⟨_, rfl, h⟩
theorem tuple_mulW0 (l : Addr) (items : Array Value) (n : Nat) (dd : Option Addr) (sl : Array (Option Value)) (x : Int) (u : Tok) (c0 : (decide (x < -(2 ^ 63)) || decide (x ≥ 2 ^ 63)) = false) (c1 : (items.isEmpty || x == 1) = false) (c2 : (decide (x ≤ 0) || items.isEmpty) = true) :
    Meets (Builtin.«tuple.__mul__» ⟨[.ref l, .int x u], []⟩) (fun _ R s => s.heap.get? l = some { cls := .type "tuple", dict := dd, data := .seq items n, slots := sl } ∧
      R (.ok (.ret (Value.ref s.heap.objs.size))) { s with heap := s.heap.push { cls := Value.type "tuple", data := Data.seq #[] }, toks := s.toks }) :=
  .of_wp fun prog w A R s h => by
    obtain ⟨hp, g, d, tk, os⟩ := s
    obtain ⟨hl, h⟩ := h
    have f1 := AutoSeq1.idx_int
    wp_walk using wpAny_loadPart' hl
    repeat (first
      | (refine wpAny_ite_false (decide_eq_false (by rw [c0]; exact Bool.false_ne_true)) ?_; wp_walk using wpAny_loadPart' hl)
      | (refine wpAny_ite_false (decide_eq_false (by rw [c1]; exact Bool.false_ne_true)) ?_; wp_walk using wpAny_loadPart' hl)
      | (refine wpAny_ite_true (decide_eq_true (by rw [c2])) ?_; wp_walk using wpAny_loadPart' hl))
    exact ⟨_, rfl, h⟩
def rRepTA (K : PySem.W.Frag) : R2 := fun x y H Q => ∃ l k xs, x = .ref l ∧ y = .int k ∧ SqT K H l xs ∧ xs ≠ [] ∧ 0 ≤ k ∧ k ≤ 1000 ∧ xs.length ≤ 1000 ∧ (k = 1 → Q (.ref l) H) ∧ (k ≠ 1 → ∀ p, H p = none → Q (.ref p) (upd H p (.tup (List.replicate k.toNat xs).flatten)))
theorem op_repTA {X : Cx} {K : PySem.W.Frag} (hK : X.K = K) : OpR X (binaryOp .Mult) (rRepTA K) := by
  subst hK
  intro pins s σ H x y v u Q I rx ry h
  obtain ⟨l, k, xs, rfl, rfl, hT, hne, h0, h2, hz, q1, q2⟩ := h
  by_cases hk : 2 ≤ k
  · exact op_repT pins s σ H _ _ v u Q I rx ry ⟨l, k, xs, rfl, rfl, hT, hne, hk, h2, hz, q2 (by omega)⟩
  cases rx
  obtain ⟨t, rfl⟩ := ry
  obtain ⟨its, r, ⟨⟨cls, dd, data, sl⟩, ho, hc, n, hd⟩, hs⟩ := I.tuple hT
  simp only at hc hd
  subst hc hd
  have hle : its.length = xs.length := r.length.symm
  have hn : its ≠ [] := fun e => hne (by
    rw [e] at hle
    exact List.eq_nil_of_length_eq_zero hle.symm)
  have hi : its.toArray.isEmpty = false := by
    cases its with
    | nil => exact absurd rfl hn
    | cons a b => rfl
  have c0 : (decide (k < -(2 ^ 63)) || decide (k ≥ 2 ^ 63)) = false := by
    rw [decide_eq_false (by omega), decide_eq_false (by omega)] <;> rfl
  by_cases e1 : k = 1
  · have c1 : (its.toArray.isEmpty || k == 1) = true := by
      rw [hi, Bool.false_or, e1]
      rfl
    exact wpAny_binaryOp_repeat_ref (T := "tuple") (U := "int") (by decide) ⟨_, ho, rfl⟩ (fun s' => typeIs_int s' k t) noFill_tuple_mul F.fills_int_mul F.slot_int_rmul repeat_tuple F.slot_int_index.lookup
      (call_meets F.slot_int_rmul (typeIs_int s k t) F.entry_int_rmul (F.args_int_rmul_2 _ _) (int_rmul_tuple k t l its.toArray n dd sl)
        ⟨ho, rfl, ⟨_, ho, rfl⟩, call_meets F.slot_tuple_mul ⟨_, ho, rfl⟩ F.entry_tuple_mul (F.args_tuple_mul_2 _ _) (tuple_mulW1 l its.toArray n dd sl k t c0 c1) ⟨ho, ⟨.ref l, H, I, rfl, q1 e1⟩⟩⟩)
  · have e0 : k = 0 := by omega
    have c1 : (its.toArray.isEmpty || k == 1) = false := by
      rw [hi, Bool.false_or]
      exact beq_eq_false_iff_ne.mpr (by omega)
    have c2 : (decide (k ≤ 0) || its.toArray.isEmpty) = true := by
      rw [decide_eq_true (by omega)]
      rfl
    refine wpAny_binaryOp_repeat_ref (T := "tuple") (U := "int") (by decide) ⟨_, ho, rfl⟩ (fun s' => typeIs_int s' k t) noFill_tuple_mul F.fills_int_mul F.slot_int_rmul repeat_tuple F.slot_int_index.lookup
      (call_meets F.slot_int_rmul (typeIs_int s k t) F.entry_int_rmul (F.args_int_rmul_2 _ _) (int_rmul_tuple k t l its.toArray n dd sl)
        ⟨ho, rfl, ⟨_, ho, rfl⟩, call_meets F.slot_tuple_mul ⟨_, ho, rfl⟩ F.entry_tuple_mul (F.args_tuple_mul_2 _ _) (tuple_mulW0 l its.toArray n dd sl k t c0 c1 c2) ⟨ho, ?_⟩⟩)
    have q := q2 e1
    rw [show k.toNat = 0 by omega] at q
    refine ⟨.ref s.heap.objs.size, _, I.laid (t' := s.toks) (o := .tup []) (fun b ob q => Heap.get?_push_of_some _ q) (Nat.le_refl _) ?_, rfl, q _ (I.hok.fresh (Nat.le_refl _))⟩
    exact ⟨Nat.zero_le _, [], .nil, IsTup.new _ _⟩
/-! ### more with a well: lists and tuples drawn -/
section
variable {K : PySem.W.Frag} {σ : L2.St} {H : Hp} {ta tb te tl ti : TE} {t : TA} {a : Addr} {d d1 d2 n : Nat} {D : Ends} {tz : TS} {x z : V} {sp : Sp} {E : XK} {PA PB : List V → Prop}
theorem ewl_rep {xs : List V} {P : Int → Prop} (ha : EvL ta σ (hid a H) xs) (hb : EvW a d tb σ H (fun v => ∃ r, v = .int r ∧ P r)) (hP : ∀ r, P r → 0 ≤ r ∧ r ≤ 300) (hz : xs.length ≤ 300) : EvWL a d (tOp rRep ta tb) σ H (fun ys => ∃ r, P r ∧ ys = (List.replicate r.toNat xs).flatten) := fun n H1 b w l Q q =>
  ha H1 (ex_hid b) _ fun p H2 hp e2 h2 => hb n H2 (b.trans (But.ex e2)) (w.ex e2) l _ fun v H3 b3 w3 ⟨r, er, pr⟩ => by
    subst er
    obtain ⟨r0, r1⟩ := hP r pr
    have h3 := b3 _ _ (w.ne hp) h2
    have hm : xs.length * r.toNat ≤ 300 * 300 := Nat.mul_le_mul hz (by omega)
    exact ⟨p, r, xs, rfl, rfl, h3, by omega, by omega, sz_of (by omega), fun l hl => q l _ _ (but_free ((But.ex e2).trans b3) w3 hl) (((But.ex e2).trans b3).trans (But.new hl)) (w3.ex (Ex.new hl)) upd_same ⟨r, pr, rfl⟩⟩
theorem ewl_cat {p : Addr} {xs : List V} (ha : Ev ta σ (hid a H) (.ref p)) (h : H p = some (.lst xs)) (np : p ≠ a) (hb : EvWL a d tb σ H PB) (hz : ∀ ys, PB ys → xs.length + ys.length ≤ 100000) : EvWL a d (tOp rCat ta tb) σ H (fun zs => ∃ ys, PB ys ∧ zs = xs ++ ys) := fun n H1 b w l Q q =>
  ha H1 (ex_hid b) _ fun H2 e2 => hb n H2 (b.trans (But.ex e2)) (w.ex e2) l _ fun r ys H3 hr b3 w3 h3 py => ⟨p, r, xs, ys, rfl, rfl, b3 _ _ np (e2 _ _ (b _ _ np h)), h3, sz_of (hz ys py), fun l hl => q l _ _ (but_free ((But.ex e2).trans b3) w3 hl) (((But.ex e2).trans b3).trans (But.new hl)) (w3.ex (Ex.new hl)) upd_same ⟨ys, py, rfl⟩⟩
theorem ewu_tupOf (h : EvWL a d te σ H PA) : EvWU a d (tCB (rTupOf K) (tCons te tNil)) σ H PA := fun n H1 b w l Q q =>
  h n H1 b w l _ fun p xs H2 hp b2 w2 h2 px => ⟨p, xs, rfl, .inl ⟨sq_of h2, fun l hl => q l xs _ (but_free b2 w2 hl) (b2.trans (But.new hl)) (w2.ex (Ex.new hl)) upd_same px⟩⟩
theorem ewu_tup (h : EvWA a d t σ H PA) (hz : ∀ xs, PA xs → xs.length ≤ 100000) : EvWU a d (tTup t) σ H PA := fun n H1 b w l Q q =>
  h n H1 b w l _ fun xs H2 b2 w2 pl => ⟨sz_of (hz xs pl), fun p hp => q p xs _ (but_free b2 w2 hp) (b2.trans (But.new hp)) (w2.ex (Ex.new hp)) upd_same pl⟩
theorem ewu_rep {xs : List V} {P : Int → Prop} (ha : EvU ta σ (hid a H) xs) (hb : EvW a d tb σ H (fun v => ∃ r, v = .int r ∧ P r)) (hP : ∀ r, P r → 0 ≤ r ∧ r ≤ 300) (h0 : xs ≠ []) (hz : xs.length ≤ 300) : EvWU a d (tOp (rRepTA K) ta tb) σ H (fun ys => ∃ r, P r ∧ ys = (List.replicate r.toNat xs).flatten) := fun n H1 b w l Q q =>
  ha H1 (ex_hid b) _ fun p H2 hp e2 h2 => hb n H2 (b.trans (But.ex e2)) (w.ex e2) l _ fun v H3 b3 w3 ⟨r, er, pr⟩ => by
    subst er
    obtain ⟨r0, r1⟩ := hP r pr
    have h3 := b3 _ _ (w.ne hp) h2
    refine ⟨p, r, xs, rfl, rfl, st_of h3, h0, r0, by omega, by omega, fun e1 => ?_, fun _ l hl => q l _ _ (but_free ((But.ex e2).trans b3) w3 hl) (((But.ex e2).trans b3).trans (But.new hl)) (w3.ex (Ex.new hl)) upd_same ⟨r, pr, rfl⟩⟩
    exact q p xs H3 hp ((But.ex e2).trans b3) w3 h3 ⟨r, pr, by rw [e1]; simp⟩
theorem ewu_cat (ha : EvWU a d1 ta σ H PA) (hb : EvWU a d2 tb σ H PB) (h0 : ∀ xs, PA xs → xs ≠ []) (hz : ∀ xs ys, PA xs → PB ys → xs.length + ys.length ≤ 100000) : EvWU a (d1 + d2) (tOp (rCatT K) ta tb) σ H (fun zs => ∃ xs ys, PA xs ∧ PB ys ∧ zs = xs ++ ys) := fun n H1 b w l Q q =>
  ha n H1 b w (by omega) _ fun p xs H2 hp b2 w2 h2 px => hb (n + d1) H2 (b.trans b2) w2 (by omega) _ fun r ys H3 hr b3 w3 h3 py => by
    rw [Nat.add_assoc] at w3
    have h2' := b3 _ _ (w.ne hp) h2
    refine ⟨p, r, xs, ys, rfl, rfl, st_of h2', st_of h3, h0 xs px, sz_of (hz xs ys px py), fun e => ?_, fun _ l hl => q l _ _ (but_free (b2.trans b3) w3 hl) ((b2.trans b3).trans (But.new hl)) (w3.ex (Ex.new hl)) upd_same ⟨xs, ys, px, py, rfl⟩⟩
    exact q p xs H3 hp (b2.trans b3) w3 h2' ⟨xs, ys, px, py, by rw [e, List.append_nil]⟩
/-- f(well, drawn ..), which draws itself -/
theorem ewu_callA (h : EvWA a d1 t σ H PA) (hs : ∀ vs n H1, PA vs → Well H1 a n → n + d2 ≤ 2 ^ 50 → ∀ Q : VK, (∀ p xs H2, H1 p = none → But a H1 H2 → Well H2 a (n + d2) → H2 p = some (.tup xs) → PB xs → Q (.ref p) H2) → ∀ E : XK, sp vs H1 Q E) : EvWU a (d1 + d2) (tCall sp [] E t) σ H PB := fun n H1 b w l Q q =>
  h n H1 b w (by omega) _ fun vs H2 b2 w2 pv => by
    rw [List.append_nil]
    exact hs vs (n + d1) H2 pv w2 (by omega) Q (fun p xs H3 hp b3 w3 h3 px => q p xs H3 (but_free b2 w2 hp) (b2.trans b3) (by rw [← Nat.add_assoc]; exact w3) h3 px) E
theorem ewl_callA (h : EvWA a d1 t σ H PA) (hs : ∀ vs n H1, PA vs → Well H1 a n → n + d2 ≤ 2 ^ 50 → ∀ Q : VK, (∀ p xs H2, H1 p = none → But a H1 H2 → Well H2 a (n + d2) → H2 p = some (.lst xs) → PB xs → Q (.ref p) H2) → ∀ E : XK, sp vs H1 Q E) : EvWL a (d1 + d2) (tCall sp [] E t) σ H PB := fun n H1 b w l Q q =>
  h n H1 b w (by omega) _ fun vs H2 b2 w2 pv => by
    rw [List.append_nil]
    exact hs vs (n + d1) H2 pv w2 (by omega) Q (fun p xs H3 hp b3 w3 h3 px => q p xs H3 (but_free b2 w2 hp) (b2.trans b3) (by rw [← Nat.add_assoc]; exact w3) h3 px) E
theorem ewu_mono {P1 : List V → Prop} (x : EvWU a d te σ H PA) (h : ∀ v, PA v → P1 v) : EvWU a d te σ H P1 := fun n H1 b w l Q q => x n H1 b w l Q fun p v H2 hp b2 w2 g2 k => q p v H2 hp b2 w2 g2 (h v k)
theorem ewa_mono {P1 : List V → Prop} (x : EvWA a d t σ H PA) (h : ∀ v, PA v → P1 v) : EvWA a d t σ H P1 := fun n H1 b w l Q q => x n H1 b w l Q fun vs H2 b2 w2 k => q vs H2 b2 w2 (h vs k)
theorem qw_setLast {xs : List V} {l : Addr} {P : V → Prop} (hl : H l = some (.lst xs)) (nl : l ≠ a) (h : EvW a d te σ H P) (ho : ∀ H1, Ev ta σ H1 (.ref l)) (hi : ∀ H1, Ev tb σ H1 (.int (-1))) (hj : 0 < xs.length) (w : Well H a n) (hn : n + d ≤ 2 ^ 50)
    (k : ∀ v H1, But a H H1 → Well H1 a (n + d) → P v → tz D σ (upd H1 l (.lst (xs.set (xs.length - 1) v)))) : tSeq (tAsg te (gSub ta tb rSetL)) tz D σ H := sw_setLast (D := { D with nx := tz D }) hl nl h ho hi hj w hn k
/-- xs[drawn] = drawn -/
theorem sw_setLW {xs : List V} {l : Addr} {P : V → Prop} {PI : Int → Prop} (hl : H l = some (.lst xs)) (nl : l ≠ a) (h : EvW a d1 te σ H P) (ho : ∀ H1, Ev ta σ H1 (.ref l)) (hi : EvW a d2 tb σ H (fun v => ∃ r, v = .int r ∧ PI r)) (hj : ∀ r, PI r → 0 ≤ r ∧ r < xs.length) (w : Well H a n) (hn : n + (d1 + d2) ≤ 2 ^ 50)
    (k : ∀ v (j : Nat) H1, But a H H1 → Well H1 a (n + (d1 + d2)) → P v → j < xs.length → D.nx σ (upd H1 l (.lst (xs.set j v)))) : tAsg te (gSub ta tb rSetL) D σ H :=
  h n H (But.refl a H) w (by omega) _ fun v H1 b1 w1 pv => ho H1 H1 (Ex.refl H1) _ fun H2 e2 => hi (n + d1) H2 (b1.trans (But.ex e2)) (w1.ex e2) (by omega) _ fun u H3 b3 w3 ⟨r, er, pr⟩ => by
    subst er
    obtain ⟨r0, r1⟩ := hj r pr
    obtain ⟨j, rfl⟩ : ∃ j : Nat, r = j := ⟨r.toNat, by omega⟩
    exact ⟨l, xs, (j : Int), j, rfl, rfl, b3 _ _ nl (e2 _ _ (b1 _ _ nl hl)), ixN_nat (by omega), k v j H3 ((b1.trans (But.ex e2)).trans b3) (by rw [← Nat.add_assoc]; exact w3) pv (by omega)⟩
/-- a list that is there against a new one -/
theorem ev_eqVL {p : Addr} {ns ms : List Int} (ha : Ev ta σ H (.ref p)) (h : SqL K H p (vi ns)) (hb : EvL tb σ H (vi ms)) : Ev (tOp (rEqD K) ta tb) σ H (.bl (decide (ns = ms))) := fun H1 e Q k =>
  ha H1 e _ fun H2 e2 => hb H2 (e.trans e2) _ fun p H3 hp e3 h3 => rv_eqL (ex_l ((e.trans e2).trans e3) h) (sq_of h3) H3 (Ex.refl H3) Q fun H4 e4 => k H4 ((e2.trans e3).trans e4)
/-- x, y = f(..), a pair -/
theorem q_tupP2 {i j : Nat} {P : V → Hp → Prop} (h : EvP te σ H P) (k : ∀ v H1, Ex H H1 → P v H1 → ∃ t x y, v = .ref t ∧ SqT K H1 t [x, y] ∧ tz D ((σ.set i (some x)).set j (some y)) H1) : tSeq (tAsg te (gTup K 2 (gCons (gName i) (gCons (gName j) gNil)))) tz D σ H :=
  h H (Ex.refl H) _ fun v H1 e1 p => by
    obtain ⟨t, x, y, rfl, ht, q⟩ := k v H1 e1 p
    exact ⟨t, _, rfl, ht, rfl, _, _, rfl, _, _, rfl, rfl, q⟩
end
/-! ### isinstance of a kept error, classes in a tuple -/
def rIsKT (K : PySem.W.Frag) : List V → Hp → VK → Prop := fun xs H Q => ∃ (a D tp : Addr) (d : Option Addr) (cs : List V) (us : List Value) (b : Bool), xs = [.ref a, .ref tp] ∧ H tp = some (.tup cs) ∧ Paired ClsV cs us ∧ H a = some (ExK (.ref D) d a) ∧ Dct H d ∧ ExcC K D ∧ PySem.W.kitAny K (.ref D) us = some b ∧ Q (.bl b) H
theorem call_isKT {X : Cx} {K : PySem.W.Frag} (hK : X.K = K) : CallR X (.builtin "isinstance") (rIsKT K) := by
  subst hK
  intro pins s σ H xs us Q I r h
  obtain ⟨a, D, tp, d, cs, ws, b, rfl, hT, k, ha, hd, ex, e, q⟩ := h
  obtain ⟨u1, u2, rfl, r1, r2⟩ := vals2 r
  cases (show u2 = Value.ref tp from r2)
  cases (show u1 = Value.ref a from r1)
  obtain ⟨oe, vs, hget, hz, hv⟩ := exk_at I.hok ha
  have hcl : (PySem.W.clsIn X.K D).isSome = true := by
    obtain ⟨cd, hc, _⟩ := PySem.W.any_some ex.hd
    rw [hc]
    rfl
  obtain ⟨od, J⟩ : ∃ od, PySem.W.InstAt s.heap a oe D od := by
    obtain ⟨oc, od, oda, osl⟩ := oe
    obtain ⟨h1, h2⟩ := hz
    dsimp only at h1 h2 hv
    subst h1 h2 hv
    cases od with
    | none => exact ⟨none, hget, rfl, rfl, trivial⟩
    | some dd =>
      obtain ⟨fs, hx⟩ := hd dd rfl
      have hx' : ObjOk X.prog X.w H s.heap dd (.xd fs) := I.hok dd _ hx
      obtain ⟨mA, hns, hr⟩ := hx'
      obtain ⟨od, ho, hl⟩ := lookIn_ns hns
      exact ⟨some od, hget, rfl, rfl, ho⟩
  obtain ⟨_, its, rv, o, h1, h2, n, h3⟩ := (show ObjOk X.prog X.w H s.heap tp (.tup cs) from I.hok tp _ hT)
  have e3 := ClsV.all k rv
  subst e3
  obtain ⟨oc, odd, dt, sl⟩ := o
  simp only at h2 h3
  subst h2 h3
  exact PySem.W.kia_tup (PySem.W.kitx_exc hcl ex.hg ex.hk ex.hs ex.ha ex.hn ex.ht ex.hm) I.kIn J h1 e (fun z => nomatch z) fun tk => ⟨.bl b, H, I.kept (t' := tk) fun _ _ z => z, rfl, q⟩
section
variable {K : PySem.W.Frag} {σ : L2.St} {H : Hp} {ta tc : TE} {a D : Addr} {d : Option Addr} {cs : List V} {us : List Value} {b : Bool}
theorem ev_isKT (h : Ev ta σ H (.ref a)) (hc : EvU tc σ H cs) (cl : Paired ClsV cs us) (ha : H a = some (ExK (.ref D) d a)) (hd : Dct H d) (ex : ExcC K D) (k : PySem.W.kitAny K (.ref D) us = some b) : Ev (tCB (rIsKT K) (tCons ta (tCons tc tNil))) σ H (.bl b) := fun H1 e Q q =>
  h H1 e _ fun H2 e2 => hc H2 (e.trans e2) _ fun p H3 hp e3 h3 => ⟨a, D, p, d, cs, us, b, rfl, h3, cl, ((e.trans e2).trans e3) _ _ ha, hd.ex ((e.trans e2).trans e3), ex, k, q H3 (e2.trans e3)⟩
end
end Bk
namespace Bk
open PySem PySem.Spec PyProof.Rows L2 Evl
theorem strOk_of (s : String) : PyData.strOk (Str.ofString s) = true := by
  rw [Str.ofString_eq_toList]
  unfold PyData.strOk
  refine Array.all_eq_true.mpr fun i hi => ?_
  simp
  have := (s.toList[i]'(by simpa using hi)).valid
  unfold UInt32.isValidChar Nat.isValidChar at this
  show (s.toList[i]'(by simpa using hi)).val.toNat < 1114112
  omega
theorem strOk_app {a b : Str} (h : PyData.strOk a = true) (h' : PyData.strOk b = true) : PyData.strOk (a ++ b) = true := by
  unfold PyData.strOk at *
  show ((a.cps ++ b.cps).all _) = true
  simp at *
  exact ⟨h, h'⟩
theorem strOk_from : ∀ (ts : List Str) (k : Nat) (acc : Str), PyData.strOk acc = true → (∀ t ∈ ts, PyData.strOk t = true) → PyData.strOk (textFrom k acc ts) = true
  | [], k, acc, h, _ => h
  | t :: r, k, acc, h, ht => by
    show PyData.strOk (textFrom (k + 1) (acc ++ (if k > 0 then ", " else "" : String) ++ t) r) = true
    exact strOk_from r (k + 1) _ (strOk_app (strOk_app h (strOk_of _)) (ht t List.mem_cons_self)) fun u hu => ht u (List.mem_cons_of_mem _ hu)
theorem strOk_list (ns : List Int) : PyData.strOk (PyData.list (di ns)).shown = true := by
  rw [PyData.shown]
  unfold listText
  refine strOk_app (strOk_from _ _ _ (strOk_of _) fun t ht => ?_) (strOk_of _)
  rw [shownAll_ints] at ht
  obtain ⟨i, _, rfl⟩ := List.mem_map.mp ht
  exact strOk_of _
/-! ### a list of pairs of numbers; lists of new lists -/
def Prs (H : Hp) (qs : List Addr) (ps : List (Int × Int)) : Prop := qs.length = ps.length ∧ ∀ (i : Nat) (q : Addr) (x : Int × Int), qs[i]? = some q → ps[i]? = some x → H q = some (.tup [.int x.1, .int x.2])
theorem Prs.ex {H H' : Hp} {qs : List Addr} {ps : List (Int × Int)} (h : Prs H qs ps) (e : Ex H H') : Prs H' qs ps := ⟨h.1, fun i q x a b => e _ _ (h.2 i q x a b)⟩
section
variable {K : PySem.W.Frag} {σ : L2.St} {H : Hp} {ta tb te tl : TE} {t : TA} {D : Ends} {tz : TS}
theorem q_asgPr {ta : TA} {i j n : Nat} {vs : List Nat} (f g : Nat → Int) (h : EvA ta σ H [.int (n : Int)]) (hn : n ≤ 40000) (hw : ∀ x, wipe ((wipe σ vs).set j (some x)) vs = wipe σ vs)
    (he : ∀ (m : Nat) H1, Ex H H1 → m < n → EvU te ((wipe σ vs).set j (some (.int (m : Int)))) H1 [.int (f m), .int (g m)])
    (k : ∀ p qs H1, H p = none → Ex H H1 → H1 p = some (.lst (qs.map .ref)) → Prs H1 qs ((List.range n).map fun m => (f m, g m)) → tz D (σ.set i (some (.ref p))) H1) : tSeq (tAsg (tLc (iRng1 ta) (gName j) tYes te vs) (gName i)) tz D σ H :=
  h H (Ex.refl H) _ fun H1 e1 => ⟨(n : Int), rfl, by omega, by omega, fun Dl hD => by
    refine lc_range (lo := 0) (n := (n : Int).toNat) (fun m H' => Ex H1 H' ∧ ∃ qs : List Addr, H' Dl = some (.lst (qs.map .ref)) ∧ Prs H' qs ((List.range m).map fun m => (f m, g m)) ∧ ∀ q ∈ qs, q ≠ Dl) ⟨Ex.new hD, [], upd_same, ⟨rfl, fun _ _ _ h => nomatch h⟩, fun _ h => nomatch h⟩ (fun m H' hm p => ?_) (fun H' p => ?_)
    · have e0 : (0 : Int) + (m : Int) = (m : Int) := Int.zero_add _
      show wipe ((wipe σ vs).set j (some (.int ((0 : Int) + (m : Int))))) vs = wipe σ vs ∧ tYes ((wipe σ vs).set j (some (.int ((0 : Int) + (m : Int))))) H' fun b H3 => if b = true then te ((wipe σ vs).set j (some (.int ((0 : Int) + (m : Int))))) H3 fun y H4 => ∃ acc, H4 Dl = some (.lst acc) ∧ acc.length < sizeLine ∧ _ else _
      rw [e0]
      obtain ⟨p1, qs, p2, p3, p4⟩ := p
      have hm' : m < n := by omega
      refine ⟨hw _, et_yes H' (Ex.refl H') _ fun H3 e3 => ?_⟩
      refine iteT (he m H3 ((e1.trans p1).trans e3) hm' H3 (Ex.refl H3) _ fun q H4 hq e4 g4 => ?_)
      have lq : qs.length = m := by rw [p3.1, List.length_map, List.length_range]
      have nq : q ≠ Dl := fun z => by
        rw [z, e3 _ _ p2] at hq
        cases hq
      refine ⟨qs.map .ref, e4 _ _ (e3 _ _ p2), sz_lt (by rw [List.length_map]; omega), ((p1.trans e3).trans e4).mut hD, qs ++ [q], by rw [upd_same, List.map_append]; rfl, ⟨by rw [List.length_append, List.length_map, List.length_range, lq]; rfl, fun i q' x a b => ?_⟩, fun q' hq' => ?_⟩
      · rw [List.range_succ, List.map_append] at b
        by_cases c : i < qs.length
        · rw [List.getElem?_append_left c] at a
          rw [List.getElem?_append_left (by rw [List.length_map, List.length_range]; omega)] at b
          rw [upd_ne (p4 _ (List.mem_of_getElem? a))]
          exact e4 _ _ (e3 _ _ (p3.2 i q' x a b))
        · rw [List.getElem?_append_right (by omega)] at a
          rw [List.getElem?_append_right (by rw [List.length_map, List.length_range]; omega), List.length_map, List.length_range] at b
          rw [lq] at a
          match hi : i - m, a, b with
          | 0, a, b =>
            cases a
            cases b
            rw [upd_ne nq]
            exact g4
          | z + 1, a, b => cases a
      · rcases List.mem_append.mp hq' with h | h
        · exact p4 q' h
        · rw [List.mem_singleton.mp h]
          exact nq
    · obtain ⟨p1, qs, p2, p3, p4⟩ := p
      rw [Int.toNat_natCast] at p3
      exact k Dl qs H' (fresh_back e1 hD) (e1.trans p1) p2 p3⟩
theorem el_lcPr {a : Addr} {qs : List Addr} {ps : List (Int × Int)} {i j : Nat} {vs : List Nat} (v : Nat → V) (h : Ev tl σ H (.ref a)) (hx : H a = some (.lst (qs.map .ref))) (hp : Prs H qs ps) (hz : ps.length ≤ 40000)
    (hw : ∀ x y, wipe (((wipe σ vs).set i (some x)).set j (some y)) vs = wipe σ vs) (he : ∀ (n : Nat) (x : Int × Int) H1, Ex H H1 → ps[n]? = some x → Ev te (((wipe σ vs).set i (some (.int x.1))).set j (some (.int x.2))) H1 (v n)) :
    EvL (tLc (iList K tl) (g2 K i j) tYes te vs) σ H (given ps.length (fun _ => true) v) := fun H0 e Q q => h H0 e _ fun H1 e1 => ⟨a, rfl, ⟨_, sq_of ((e.trans e1) _ _ hx)⟩, fun Dl hD =>
  lc_list (xs := qs.map .ref) (Cw H1 (fun _ => true) v Dl) ⟨hD, Ex.new hD, upd_same⟩ (fun i H' _ p => sq_of (p.2.1 _ _ ((e.trans e1) _ _ hx))) (fun n x H' hi p => by
    rw [List.getElem?_map] at hi
    cases g : qs[n]? with
    | none => rw [g] at hi; cases hi
    | some b =>
      rw [g] at hi
      cases hi
      have hl := (List.getElem?_eq_some_iff.mp g).1
      have hlr : n < ps.length := hp.1 ▸ hl
      have hR : ps[n]? = some ps[n] := List.getElem?_eq_getElem hlr
      have hb := p.2.1 _ _ ((e.trans e1) _ _ (hp.2 n b _ g hR))
      exact g2_go hb ⟨hw _ _, cw_turn p (by omega) (fun H3 _ Q q => q H3 (Ex.refl H3)) fun _ => he n _ H1 (e.trans e1) hR⟩)
    (fun H' p => q Dl H' (fresh_back e1 p.1) (e1.trans p.2.1) (by
      have := p.2.2
      rw [List.length_map, hp.1] at this
      exact this))⟩
/-- two new lists, one behind the other -/
def EvLL (t : TA) (σ : L2.St) (H : Hp) (xs ys : List V) : Prop := ∀ H1, Ex H H1 → ∀ Q : List V → Hp → Prop, (∀ p q H2, H1 p = none → H1 q = none → p ≠ q → Ex H1 H2 → H2 p = some (.lst xs) → H2 q = some (.lst ys) → Q [.ref p, .ref q] H2) → t σ H1 Q
theorem ea_LL {xs ys : List V} (h1 : EvL ta σ H xs) (h2 : EvL tb σ H ys) : EvLL (tCons ta (tCons tb tNil)) σ H xs ys := fun H1 e Q q =>
  h1 H1 e _ fun p H2 hp e2 g2 => h2 H2 (e.trans e2) _ fun r H3 hr e3 g3 => q p r H3 hp (fresh_back e2 hr) (ne_of_none g2 hr) (e2.trans e3) (e3 _ _ g2) g3
theorem q_asgLst2 {i : Nat} {xs ys : List V} (h : EvLL t σ H xs ys) (k : ∀ p q l H1, H p = none → H q = none → H l = none → p ≠ q → l ≠ p → l ≠ q → Ex H H1 → H1 p = some (.lst xs) → H1 q = some (.lst ys) → H1 l = some (.lst [.ref p, .ref q]) → tz D (σ.set i (some (.ref l))) H1) : tSeq (tAsg (tLst t) (gName i)) tz D σ H :=
  h H (Ex.refl H) _ fun p q H2 hp hq ne e2 g2 g3 => ⟨sz_of (by show 2 ≤ 100000; decide), fun l hl => k p q l _ hp hq (fresh_back e2 hl) ne (ne_of_none g2 hl).symm (ne_of_none g3 hl).symm (e2.trans (Ex.new hl)) (Ex.new hl _ _ g2) (Ex.new hl _ _ g3) upd_same⟩
theorem q_catLst2 {i : Nat} {l0 : Addr} {zs xs ys : List V} (ha : Ev ta σ H (.ref l0)) (h0 : H l0 = some (.lst zs)) (h : EvLL t σ H xs ys) (hz : zs.length ≤ 1000) (k : ∀ p q l H1, H p = none → H q = none → H l = none → p ≠ q → l ≠ p → l ≠ q → Ex H H1 → H1 p = some (.lst xs) → H1 q = some (.lst ys) → H1 l = some (.lst (zs ++ [.ref p, .ref q])) → tz D (σ.set i (some (.ref l))) H1) : tSeq (tAsg (tOp rCat ta (tLst t)) (gName i)) tz D σ H :=
  ha H (Ex.refl H) _ fun H1 e1 => h H1 e1 _ fun p q H2 hp hq ne e2 g2 g3 => ⟨sz_of (by show 2 ≤ 100000; decide), fun m hm => ⟨l0, m, zs, _, rfl, rfl, Ex.new hm _ _ (e2 _ _ (e1 _ _ h0)), upd_same, sz_of (by show zs.length + 2 ≤ 100000; omega), fun l hl => by
    have e3 := Ex.new (o := .lst [.ref p, .ref q]) hm
    have e4 := Ex.new (o := .lst (zs ++ [.ref p, .ref q])) hl
    have ee := (e2.trans e3).trans e4
    exact k p q l _ (fresh_back e1 hp) (fresh_back e1 hq) (fresh_back ((e1.trans e2).trans e3) hl) ne (ne_of_none (e3 _ _ g2) hl).symm (ne_of_none (e3 _ _ g3) hl).symm (e1.trans ee) ((e3.trans e4) _ _ g2) ((e3.trans e4) _ _ g3) upd_same⟩⟩
/-- two texts in a list, compared with the same -/
theorem ev_neSS {p : Addr} {x y : Str} (hx : PyData.strOk x = true) (hy : PyData.strOk y = true) (ha : EvL ta σ H [.str x, .str y]) (hb : Ev tb σ H (.ref p)) (h : SqL K H p [.str x, .str y]) : Ev (tOp (rNeD K) ta tb) σ H (.bl false) := fun H1 e Q k =>
  ha H1 e _ fun r H2 hr e2 h2 => hb H2 (e.trans e2) _ fun H3 e3 => ⟨.list [.str x, .str y], .list [.str x, .str y], .lst (sq_of (e3 _ _ h2)) (.cons (.str _) (.cons (.str _) .nil)), .lst (ex_l ((e.trans e2).trans e3) h) (.cons (.str _) (.cons (.str _) .nil)), by simp [SeqAt.shaped, PyData.canLay0, PyData.canLayAll0, PyData.depth, PyData.depthAll, hx, hy], by simp [SeqAt.shaped, PyData.canLay0, PyData.canLayAll0, PyData.depth, PyData.depthAll, hx, hy], by
    have e : PyData.eqv (.list [.str x, .str y]) (.list [.str x, .str y]) = true := by simp [PyData.eqv, PyData.eqvAll]
    rw [e]
    exact k H3 (e2.trans e3)⟩
theorem s_forLn' {a : Addr} {xs : List V} {tu : TS} {j : Nat} (h : Ev tl σ H (.ref a)) (hx : SqL K H a xs) (Pv : Nat → L2.St → Hp → Prop) (h0 : ∀ H1, Ex H H1 → Pv 0 σ H1) (hl : ∀ i σ' H', i ≤ xs.length → Pv i σ' H' → SqL K H' a xs)
    (hs : ∀ i x σ' H', xs[i]? = some x → Pv i σ' H' → tu { D with nx := Pv (i + 1), ct := Pv (i + 1), bk := tz D } (σ'.set j (some x)) H') (hd : ∀ σ' H', Pv xs.length σ' H' → tz D σ' H') : tSeq (tFor (iList K tl) (gName j) tu) tz D σ H :=
  s_forL (D := { D with nx := tz D }) h hx Pv h0 hl hs hd
end
end Bk
namespace Bk
open PySem PySem.Spec PyProof.Rows L2 Evl
section
variable {K : PySem.W.Frag} {σ : L2.St} {H : Hp} {ta tb tc te tl : TE} {a : Addr} {d d1 d2 d3 n : Nat} {tz : TS} {D : Ends}
theorem ewl_pure {xs : List V} {P : List V → Prop} (h : EvL te σ (hid a H) xs) (p : P xs) : EvWL a 0 te σ H P := fun n H1 b w l Q q =>
  h H1 (ex_hid b) Q fun r H2 hr e2 h2 => q r xs H2 hr (But.ex e2) (w.ex e2) h2 p
theorem ewl_catW {PA PB : List V → Prop} (ha : EvWL a d1 ta σ H PA) (hb : EvWL a d2 tb σ H PB) (hz : ∀ xs ys, PA xs → PB ys → xs.length + ys.length ≤ 100000) : EvWL a (d1 + d2) (tOp rCat ta tb) σ H (fun zs => ∃ xs ys, PA xs ∧ PB ys ∧ zs = xs ++ ys) := fun n H1 b w l Q q =>
  ha n H1 b w (by omega) _ fun p xs H2 hp b2 w2 h2 px => hb (n + d1) H2 (b.trans b2) w2 (by omega) _ fun r ys H3 hr b3 w3 h3 py => ⟨p, r, xs, ys, rfl, rfl, b3 _ _ (w.ne hp) h2, h3, sz_of (hz xs ys px py), fun l hl => q l _ _ (but_free (b2.trans b3) w3 hl) ((b2.trans b3).trans (But.new hl)) (by
    rw [← Nat.add_assoc]
    exact w3.ex (Ex.new hl)) upd_same ⟨xs, ys, px, py, rfl⟩⟩
theorem qw_par3V {i j l : Nat} {PA PB PC : V → Prop} (h1 : EvW a d1 ta σ H PA) (h2 : EvW a d2 tb σ H PB) (h3 : EvW a d3 tc σ H PC) (w : Well H a n) (hl : n + (d1 + d2 + d3) ≤ 2 ^ 50)
    (k : ∀ x y z H1, But a H H1 → Well H1 a (n + (d1 + d2 + d3)) → PA x → PB y → PC z →
      tz D (((σ.set i (some x)).set j (some y)).set l (some z)) H1) : tSeq (tPar3 i j l (tCons ta (tCons tb (tCons tc tNil)))) tz D σ H :=
  h1 n H (But.refl a H) w (by omega) _ fun x H2 b2 w2 pa => h2 (n + d1) H2 b2 w2 (by omega) _ fun y H3 b3 w3 pb => h3 (n + d1 + d2) H3 (b2.trans b3) w3 (by omega) _ fun z H4 b4 w4 pc => by
    refine ⟨_, _, _, rfl, k x y z H4 ((b2.trans b3).trans b4) ?_ pa pb pc⟩
    rw [show n + (d1 + d2 + d3) = n + d1 + d2 + d3 by omega]
    exact w4
theorem op_isB {X : Cx} : OpR X (compareOp .Is) (fun x y H Q => ∃ a b : Bool, x = V.bl a ∧ y = V.bl b ∧ Q (V.bl (a == b)) H) := by
  intro pins s σ H x y v u Q I rx ry h
  obtain ⟨a, b, rfl, rfl, q⟩ := h
  cases rx
  cases ry
  exact wpAny_is_plain (by rfl) (fin_bl I q (by cases a <;> cases b <;> rfl))
theorem op_notB {X : Cx} : OpR X (compareOp .IsNot) (fun x y H Q => ∃ a b : Bool, x = V.bl a ∧ y = V.bl b ∧ Q (V.bl (!(a == b))) H) := by
  intro pins s σ H x y v u Q I rx ry h
  obtain ⟨a, b, rfl, rfl, q⟩ := h
  cases rx
  cases ry
  exact wpAny_isNot_plain (by rfl) (fin_bl I q (by cases a <;> cases b <;> rfl))
theorem rv_isB {x y : Bool} : RV (fun x y H Q => ∃ a b : Bool, x = V.bl a ∧ y = V.bl b ∧ Q (V.bl (a == b)) H) (.bl x) (.bl y) H (.bl (x == y)) := fun H1 e Q q => ⟨x, y, rfl, rfl, q H1 (Ex.refl H1)⟩
theorem rv_notB {x y : Bool} : RV (fun x y H Q => ∃ a b : Bool, x = V.bl a ∧ y = V.bl b ∧ Q (V.bl (!(a == b))) H) (.bl x) (.bl y) H (.bl (!(x == y))) := fun H1 e Q q => ⟨x, y, rfl, rfl, q H1 (Ex.refl H1)⟩
theorem ewu_pure {xs : List V} {P : List V → Prop} (h : EvU te σ (hid a H) xs) (p : P xs) : EvWU a 0 te σ H P := fun n H1 b w l Q q =>
  h H1 (ex_hid b) Q fun r H2 hr e2 h2 => q r xs H2 hr (But.ex e2) (w.ex e2) h2 p
theorem qw_par3UVV {i j l : Nat} {PA : List V → Prop} {PB PC : V → Prop} (h1 : EvWU a d1 ta σ H PA) (h2 : EvW a d2 tb σ H PB) (h3 : EvW a d3 tc σ H PC) (w : Well H a n) (hl : n + (d1 + d2 + d3) ≤ 2 ^ 50)
    (k : ∀ p xs y z H1, H p = none → But a H H1 → Well H1 a (n + (d1 + d2 + d3)) → H1 p = some (.tup xs) → PA xs → PB y → PC z →
      tz D (((σ.set i (some (.ref p))).set j (some y)).set l (some z)) H1) : tSeq (tPar3 i j l (tCons ta (tCons tb (tCons tc tNil)))) tz D σ H :=
  h1 n H (But.refl a H) w (by omega) _ fun p xs H2 hp b2 w2 g2 pa => h2 (n + d1) H2 b2 w2 (by omega) _ fun y H3 b3 w3 pb => h3 (n + d1 + d2) H3 (b2.trans b3) w3 (by omega) _ fun z H4 b4 w4 pc => by
    refine ⟨_, _, _, rfl, k p xs y z H4 hp ((b2.trans b3).trans b4) ?_ (b4 _ _ (w.ne hp) (b3 _ _ (w.ne hp) g2)) pa pb pc⟩
    rw [show n + (d1 + d2 + d3) = n + d1 + d2 + d3 by omega]
    exact w4
/-- f(new list, new tuple), a new list -/
theorem el_callLU {sp : Sp} {E : XK} {xs ys zs : List V} (h : EvL ta σ H xs) (h2 : EvU tb σ H ys) (hs : ∀ p q H1, Ex H H1 → H1 p = some (.lst xs) → H1 q = some (.tup ys) → SpL sp [.ref p, .ref q] H1 zs) : EvL (tCall sp [] E (tCons ta (tCons tb tNil))) σ H zs := fun H1 e Q q =>
  h H1 e _ fun p H2 hp e2 g2 => h2 H2 (e.trans e2) _ fun p' H3 hp' e3 g3 => hs p p' H3 ((e.trans e2).trans e3) (e3 _ _ g2) g3 H3 (Ex.refl H3) Q (fun r H4 hr e4 h4 => q r H4 (fresh_back (e2.trans e3) hr) ((e2.trans e3).trans e4) h4) E
/-- f(x, drawn tuple) -/
theorem ew_callVU {sp : Sp} {E : XK} {x v : V} {PU : List V → Prop} (h1 : Ev ta σ (hid a H) x) (h : EvWU a d te σ H PU) (hs : ∀ p xs H1, But a H H1 → H1 p = some (.tup xs) → PU xs → SpV sp [x, .ref p] H1 v) : EvW a d (tCall sp [] E (tCons ta (tCons te tNil))) σ H (fun z => z = v) := fun n H1 bt w l Q q =>
  h1 H1 (ex_hid bt) _ fun H2 e2 => h n H2 (bt.trans (But.ex e2)) (w.ex e2) l _ fun p xs H3 hp b3 w3 g3 px => hs p xs H3 ((bt.trans (But.ex e2)).trans b3) g3 px H3 (Ex.refl H3) Q (fun H4 e4 => q v H4 (((But.ex e2).trans b3).trans (But.ex e4)) (w3.ex e4) rfl) E
theorem ew_andT {P : V → Prop} (h1 : Ev ta σ (hid a H) (.bl true)) (h2 : EvW a d tb σ H P) : EvW a d (tAndV ta tb) σ H P := fun n H1 bt w l Q q =>
  h1 H1 (ex_hid bt) _ fun H2 e2 => ⟨true, rfl, iteT (h2 n H2 (bt.trans (But.ex e2)) (w.ex e2) l Q fun v H3 b3 w3 p => q v H3 ((But.ex e2).trans b3) w3 p)⟩
/-- [(f(k), g(k)) for k in range(n) if test][0], where one k alone passes -/
theorem ep_lcP0 {ta : TA} {tt : TT} {t0 : TE} {j n M : Nat} {vs : List Nat} {x y : V} (b : Nat → Bool) (h : EvA ta σ H [.int (n : Int)]) (hn : n ≤ 40000) (hM : M < n) (hb : ∀ m, m < n → (b m = true ↔ m = M)) (hw : ∀ x, wipe ((wipe σ vs).set j (some x)) vs = wipe σ vs)
    (ht : ∀ (m : Nat) H1, Ex H H1 → m < n → EvT tt ((wipe σ vs).set j (some (.int (m : Int)))) H1 (b m)) (he : ∀ H1, Ex H H1 → EvU te ((wipe σ vs).set j (some (.int (M : Int)))) H1 [x, y]) (hz : ∀ H1, Ev t0 σ H1 (.int 0)) :
    EvP (tOp (rIxL K) (tLc (iRng1 ta) (gName j) tt te vs) t0) σ H (fun v H1 => ∃ t, v = .ref t ∧ SqT K H1 t [x, y]) := fun H0 e Q q =>
  h H0 e _ fun H1 e1 => ⟨(n : Int), rfl, by omega, by omega, fun Dl hD => by
    refine lc_range (lo := 0) (n := (n : Int).toNat) (fun m H' => Ex H1 H' ∧ ((m ≤ M ∧ H' Dl = some (.lst [])) ∨ (M < m ∧ ∃ q, q ≠ Dl ∧ H' Dl = some (.lst [.ref q]) ∧ H' q = some (.tup [x, y])))) ⟨Ex.new hD, .inl ⟨Nat.zero_le _, upd_same⟩⟩ (fun m H' hm p => ?_) (fun H' p => ?_)
    · have e0 : (0 : Int) + (m : Int) = (m : Int) := Int.zero_add _
      show wipe ((wipe σ vs).set j (some (.int ((0 : Int) + (m : Int))))) vs = wipe σ vs ∧ tt ((wipe σ vs).set j (some (.int ((0 : Int) + (m : Int))))) H' fun b H3 => if b = true then te ((wipe σ vs).set j (some (.int ((0 : Int) + (m : Int))))) H3 fun y H4 => ∃ acc, H4 Dl = some (.lst acc) ∧ acc.length < sizeLine ∧ _ else _
      rw [e0]
      obtain ⟨p1, p2⟩ := p
      have hm' : m < n := by omega
      refine ⟨hw _, ht m H' ((e.trans e1).trans p1) hm' H' (Ex.refl H') _ fun H3 e3 => ?_⟩
      by_cases c : m = M
      · subst c
        rw [if_pos ((hb m hm').mpr rfl)]
        rcases p2 with ⟨_, g⟩ | ⟨z, _⟩
        · refine he H3 (((e.trans e1).trans p1).trans e3) H3 (Ex.refl H3) _ fun q' H4 hq e4 g4 => ?_
          have nq : q' ≠ Dl := fun z => by
            rw [z, e3 _ _ g] at hq
            cases hq
          exact ⟨[], e4 _ _ (e3 _ _ g), sz_lt (by show 0 < 100000; decide), ((p1.trans e3).trans e4).mut hD, .inr ⟨Nat.lt_succ_self _, q', nq, upd_same, by rw [upd_ne nq]; exact g4⟩⟩
        · exact absurd z (Nat.lt_irrefl _)
      · rw [if_neg fun z => c ((hb m hm').mp z)]
        refine ⟨p1.trans e3, ?_⟩
        rcases p2 with ⟨z, g⟩ | ⟨z, q', nq, g, g'⟩
        · exact .inl ⟨by omega, e3 _ _ g⟩
        · exact .inr ⟨by omega, q', nq, e3 _ _ g, e3 _ _ g'⟩
    · obtain ⟨p1, p2⟩ := p
      rcases p2 with ⟨z, _⟩ | ⟨z, q', nq, g, g'⟩
      · omega
      · exact hz H' H' (Ex.refl H') _ fun H2 e2 => rv_ixL (sq_of (e2 _ _ g)) rfl H2 (Ex.refl H2) Q fun H3 e3 => q _ H3 (e1.trans ((p1.trans e2).trans e3)) ⟨q', rfl, st_of (e3 _ _ (e2 _ _ g'))⟩⟩
end
end Bk
namespace Bk
open PySem PySem.Spec PyProof.Rows L2 Evl
/-! ### own classes: methods, making, properties, len and in, where the stack holds no repr -/
theorem Rm.in1 {k : Nat} {A : Around} (r : Rm (k + 1) A) : Rm k A.in1 := ⟨r.rm.in1, r.gd⟩
theorem Rm.make {k : Nat} {A : Around} (r : Rm (k + 1) A) (C : Addr) (us : List Value) (kw : List (Str × Value)) : Rm k (A.under (.builtin "type.__call__" ⟨.ref C :: us, kw⟩)) := ⟨r.rm.make C us kw, by
  have e : (A.under (.builtin "type.__call__" ⟨.ref C :: us, kw⟩)).guards = A.guards := by
    first
      | rfl
      | simp [Around.under, Code.guards, Code.isGuard, guardIds, pushGuards]
  rw [e]
  exact r.gd⟩
section
variable {X : Cx} {CX : CXT} {k : Nat} {f C p g a : Addr} {fd : FuncData} {ps : List Str} {sp : Sp} {E : XK} {x m : Str} {pos apos ppos : Pos} {e o : Expr} {es : List Expr} {ta : TE} {t : TA}
/-- o.m(e, ..) -/
theorem pe_methG {pl : Sem Bool} (he : PE X o ta) (c : Cls X.K C) (hm : Meth X.K C m f) (F : FnG X.prog X.w X.K X.mg X.base CX k f fd ps sp) (hr : Rm k X.A) (hb : Binds X.K fd ps []) (hx : Passes CX X E) (ha : PA X (e :: es) t)
    (hst : starEach (e :: es) X.env = (false, eval e X.env) :: starEach es X.env := by rfl) (hpl : (backTo pos (starEach es X.env)).any (·.1) = false := by rfl)
    (ht : eval (.Call (.Attribute o m apos) (e :: es) [] pos) X.env = (do
      let ov ← eval o X.env
      standAt apos.atName
      let (f, first) ← holding [ov] (getMethod ov m pl)
      callWith pos f first (backTo pos (starEach (e :: es) X.env)) (backToKw pos (keywordEach [] X.env))) := by rfl) :
    PE X (.Call (.Attribute o m apos) (e :: es) [] pos) (tMeth C m sp [] E ta t) := by
  refine ⟨fun pins s σ H Q I h => ?_⟩
  refine PySem.W.methodCall_KW (pl := pl) (thn (he.run pins s σ H _ I h) fun u s1 ⟨x, H1, I1, rx, a, dx, fs, ex, ea, l, q⟩ => ?_) ht
  subst ex
  obtain rfl : u = Value.ref a := rx
  refine getmeth_ok I1 ea c hm l ?_
  refine PySem.W.callWith_K (first := [.ref a]) (h₀ := X.base) I.ok.mod.kin hm.kp (thn (ha.run pos pins s1 σ H1 _ I1 q) fun us s2 ⟨vs, H2, I2, r, q2⟩ => ⟨I2.kIn, ?_⟩) hst hpl
  exact runG (us := .ref a :: us) (vs := .ref a :: vs) F hr hb .nil hx I2 (.cons rfl r) q2
/-- o.m() -/
theorem pe_methG0 {pl : Sem Bool} (he : PE X o ta) (c : Cls X.K C) (hm : Meth X.K C m f) (F : FnG X.prog X.w X.K X.mg X.base CX k f fd ps sp) (hr : Rm k X.A) (hb : Binds X.K fd ps []) (hx : Passes CX X E)
    (ht : eval (.Call (.Attribute o m apos) [] [] pos) X.env = (do
      let ov ← eval o X.env
      standAt apos.atName
      let (f, first) ← holding [ov] (getMethod ov m pl)
      callWith pos f first (backTo pos (starEach [] X.env)) (backToKw pos (keywordEach [] X.env))) := by rfl) :
    PE X (.Call (.Attribute o m apos) [] [] pos) (tMeth C m sp [] E ta tNil) := by
  refine ⟨fun pins s σ H Q I h => ?_⟩
  refine PySem.W.methodCall_KW (pl := pl) (thn (he.run pins s σ H _ I h) fun u s1 ⟨x, H1, I1, rx, a, dx, fs, ex, ea, l, q⟩ => ?_) ht
  subst ex
  obtain rfl : u = Value.ref a := rx
  refine getmeth_ok I1 ea c hm l ?_
  exact PySem.W.callWith_K0 (first := [.ref a]) I1.kIn hm.kp (runG (us := [.ref a]) (vs := [.ref a]) F hr hb .nil hx I1 (.cons rfl .nil) q)
/-- C() -/
theorem pe_makeG0 (M : Mk X.K C f) (F : FnG X.prog X.w X.K X.mg X.base CX k f fd ps sp) (hr : Rm (k + 1) X.A) (hg : Gl X x) (hm : X.mg x = some (.ref C)) (hb : Binds X.K fd ps []) (hx : Passes CX X E)
    (hdb : (x == ("__debug__" : Str)) = false := by decide) : PE X (.Call (.Name x ppos) [] [] pos) (tMake C sp [] E tNil) := by
  refine ⟨fun pins s σ H Q I h => ?_⟩
  refine wpAny_Call_Name_kw (ld_glob I hg hm ?_ hdb)
  refine PySem.W.callWith_K0 I.kIn M.kp ?_
  have hq := h (s.heap.objs.size + 1) s.heap.objs.size (I.hok.fresh (Nat.le_succ _)) (I.hok.fresh (Nat.le_refl _)) (Nat.ne_of_lt (Nat.lt_succ_self _))
  have I2 := Inv.made (C := C) I
  have hl : ([Value.ref (s.heap.objs.size + 1)] ++ ([] : List Value)).length = ps.length := (F.len _ _ _ _ hq : [V.ref (s.heap.objs.size + 1)].length = ps.length)
  refine wpAny_call (make_map (f := f) I.kIn M.makes M.init (beq_iff_eq.mp M.fn) (codeAny_mono (F.run _ X.stack _ _ ⟨[Value.ref (s.heap.objs.size + 1)], []⟩ [Value.ref (s.heap.objs.size + 1)] [V.ref (s.heap.objs.size + 1)] _ E (hr.make C [] [])
    (I2.env0.make C [] []) (hb _ [Value.ref (s.heap.objs.size + 1)] I2.kIn hl) (.cons rfl .nil) hq) fun r s' hq' => ?_))
  cases r with
  | error e => exact hx pins σ _ _ e s' I2 hq'
  | ok fl =>
    cases fl with
    | ret u =>
      obtain ⟨v, H', I3, rv, ev, q3⟩ := I2.after hq'
      subst ev
      exact ⟨rv, ⟨V.ref (s.heap.objs.size + 1), H', I3, rfl, q3⟩⟩
    | next => exact False.elim hq'
    | brk => exact False.elim hq'
    | cont => exact False.elim hq'
/-- o.f, a property -/
theorem pe_propG (he : PE X e ta) (c : Cls X.K C) (hp : PropOf X.K C x p g) (F : FnG X.prog X.w X.K X.mg X.base CX k g fd ps sp) (hr : Rm (k + 1) X.A) (hb : Binds X.K fd ps []) (hx : Passes CX X.nox E)
    (hab : attributeBase e x X.env (eval e X.env) = eval e X.env) : PE X (.Attribute e x pos) (tProp C sp [] E ta) := by
  refine ⟨fun pins s σ H Q I0 h => ?_⟩
  refine attr_of hab (thn (he.run pins s σ H _ I0 h) fun u s1 ⟨y, H1, I, rx, a, dx, fs, ex, ea, h⟩ => ?_)
  subst ex
  obtain rfl : u = Value.ref a := rx
  obtain ⟨mA, O, _, _, _, _⟩ := ins_get I.hok ea
  obtain ⟨od, J, _⟩ := O.look
  obtain ⟨rest, hrec⟩ := hp.rec_
  have I1 := I.tok (s1.toks + 1)
  have hl : ([Value.ref a] ++ ([] : List Value)).length = ps.length := (F.len _ _ _ _ h : [V.ref a].length = ps.length)
  have hc : (PySem.W.clsIn X.K C).isSome = true := by
    obtain ⟨cd, hc, _⟩ := PySem.W.any_some c.hd
    rw [hc]
    rfl
  refine PySem.W.get_bind I.kIn J (PySem.W.plainGet_of (c.get x)).1 (PySem.W.findObj_data hc hp.at_ hp.get hp.tak) (PySem.W.plainGet_of (c.get x)).2 (wpAny_call (PySem.W.prop_get (s := { s1 with toks := s1.toks + 1 }) I.kIn hrec ?_))
  refine codeAny_mono (F.run X.A.in1 X.stack { s1 with toks := s1.toks + 1 } H1 ⟨[.ref a], []⟩ [.ref a] [.ref a] Q E hr.in1 I1.env0.in1 (hb _ [.ref a] I1.kIn hl) (.cons rfl .nil) h) fun r s' hq => ?_
  cases r with
  | error er => exact False.elim (hx pins σ H1 { s1 with toks := s1.toks + 1 } er s' (I1.wish _) hq)
  | ok fl =>
    cases fl with
    | ret u =>
      obtain ⟨v, H', I3, rv, q3⟩ := I1.after hq
      show wpAny _ _ (handedOut u) _ _ _
      rw [PySem.W.handedOut_of (handed_of rv)]
      exact wpAny_pure ⟨v, H', I3, rv, q3⟩
    | next => exact False.elim hq
    | brk => exact False.elim hq
    | cont => exact False.elim hq
/-- len(o) by an own __len__ -/
def rLenO (C : Addr) (sp : Sp) (E : XK) : List V → Hp → VK → Prop := fun xs H Q => ∃ a dx fs, xs = [V.ref a] ∧ H a = some (.ins C dx fs) ∧ sp [.ref a] H (fun v H2 => ∃ n : Nat, v = .int (n : Int) ∧ n < 2 ^ 62 ∧ Q (.int (n : Int)) H2) E
theorem call_lenO (hs : Meth X.K C "__len__" f) (F : FnG X.prog X.w X.K X.mg X.base CX k f fd ps sp) (hr : Rm (k + 1) X.A) (hb : Binds X.K fd ps []) (hx : Passes CX X E) : CallR X (.builtin "len") (rLenO C sp E) := by
  intro pins s σ H xs us Q I r h
  obtain ⟨a, dx, fs, rfl, ea, h⟩ := h
  obtain ⟨u, rfl, ru⟩ := vals1 r
  cases (show u = Value.ref a from ru)
  obtain ⟨mA, O, _, _, _, _⟩ := ins_get I.hok ea
  obtain ⟨od, J, _⟩ := O.look
  obtain ⟨m, hF⟩ := I.fr
  have hl : ([Value.ref a] ++ ([] : List Value)).length = ps.length := (F.len _ _ _ _ h : [V.ref a].length = ps.length)
  refine PySem.W.len_K hF I.ok.mod.kin J hs.at_ hs.fn (wpAny_call (codeAny_mono (F.run X.A.in1 X.stack s H ⟨[.ref a], []⟩ [.ref a] [.ref a] _ E hr.in1 I.env0.in1 (hb s [.ref a] I.kIn hl) (.cons rfl .nil) h) fun r s' hq => ?_))
  have z := endG I hx r s' hq
  cases r with
  | error e => exact z
  | ok fl =>
    cases fl with
    | ret u =>
      obtain ⟨v, H', I3, rv, n, rfl, hn, q⟩ := z
      obtain ⟨tk, rfl⟩ := rv
      exact ⟨⟨by omega, by omega⟩, V.int (n : Int), H', I3.tok _, ⟨_, rfl⟩, q⟩
    | _ => exact z.elim
/-- x in o by an own __contains__ -/
def rInO (C : Addr) (sp : Sp) (E : XK) (neg : Bool) : R2 := fun x y H Q => ∃ a dx fs, y = V.ref a ∧ H a = some (.ins C dx fs) ∧ sp [.ref a, x] H (fun v H2 => ∃ b : Bool, v = .bl b ∧ Q (.bl (if neg then !b else b)) H2) E
theorem in_run {pins : List (Addr × Obj)} {s : Shared} {σ : L2.St} {H : Hp} {x : V} {u : Value} {Q : VK} {dx : Addr} {fs : List (Str × V)} {R : Bool → Shared → Prop} (F : FnG X.prog X.w X.K X.mg X.base CX k f fd ps sp) (hr : Rm k X.A) (hb : Binds X.K fd ps []) (hx : Passes CX X E)
    (I : Inv X pins σ H s) (ru : RelV x u) (h : sp [.ref a, x] H Q E) (hq : ∀ v s', EP X pins σ Q v s' → ∃ b, v = .bool b ∧ R b s') : wpAny (model X.prog X.w) X.A (call (.ref f) [.ref a, u]) (fun r s' => wpAny (model X.prog X.w) X.A (truthy r) R X.xe s') X.xe s := by
  have hl : ([Value.ref a, u] ++ ([] : List Value)).length = ps.length := (F.len _ _ _ _ h : [V.ref a, x].length = ps.length)
  refine wpAny_call (codeAny_mono (F.run X.A X.stack s H ⟨[.ref a, u], []⟩ [.ref a, u] [.ref a, x] _ E hr I.env0 (hb s [.ref a, u] I.kIn hl) (.cons rfl (.cons ru .nil)) h) fun r s' hz => ?_)
  have z := endG I hx r s' hz
  cases r with
  | error e => exact z
  | ok fl =>
    cases fl with
    | ret v =>
      obtain ⟨b, rfl, w⟩ := hq v s' z
      exact wpAny_truthy_bool w
    | _ => exact z.elim
theorem op_inO (hs : Meth X.K C "__contains__" f) (F : FnG X.prog X.w X.K X.mg X.base CX k f fd ps sp) (hr : Rm k X.A) (hb : Binds X.K fd ps []) (hx : Passes CX X E) : OpR X (compareOp .In) (rInO C sp E false) := by
  intro pins s σ H x y v u Q I rx ry h
  obtain ⟨a, dx, fs, rfl, ea, h⟩ := h
  cases (show u = Value.ref a from ry)
  obtain ⟨mA, O, _, _, _, _⟩ := ins_get I.hok ea
  obtain ⟨od, J, _⟩ := O.look
  obtain ⟨m, hF⟩ := I.fr
  refine PySem.W.in_K hF I.ok.mod.kin J hs.at_ hs.fn (in_run (dx := dx) (fs := fs) F hr hb hx I rx h fun w s' z => ?_)
  obtain ⟨v, H', I3, rv, b, rfl, q⟩ := z
  cases rv
  exact ⟨b, rfl, V.bl b, H', I3, rfl, q⟩
theorem op_notInO (hs : Meth X.K C "__contains__" f) (F : FnG X.prog X.w X.K X.mg X.base CX k f fd ps sp) (hr : Rm k X.A) (hb : Binds X.K fd ps []) (hx : Passes CX X E) : OpR X (compareOp .NotIn) (rInO C sp E true) := by
  intro pins s σ H x y v u Q I rx ry h
  obtain ⟨a, dx, fs, rfl, ea, h⟩ := h
  cases (show u = Value.ref a from ry)
  obtain ⟨mA, O, _, _, _, _⟩ := ins_get I.hok ea
  obtain ⟨od, J, _⟩ := O.look
  obtain ⟨m, hF⟩ := I.fr
  refine PySem.W.notIn_K hF I.ok.mod.kin J hs.at_ hs.fn (in_run (dx := dx) (fs := fs) F hr hb hx I rx h fun w s' z => ?_)
  obtain ⟨v, H', I3, rv, b, rfl, q⟩ := z
  cases rv
  exact ⟨b, rfl, V.bl (!b), H', I3, rfl, q⟩
end
end Bk
namespace Bk
open PySem PySem.Spec PyProof.Rows L2 Evl
/-! ### readings: own classes -/
section
variable {K : PySem.W.Frag} {σ : L2.St} {H : Hp} {ta tb te tv : TE} {t : TA} {D : Ends} {tz : TS} {p C dx : Addr} {fs : List (Str × V)} {f m : Str} {v x z : V} {vs xs : List V} {sp : Sp} {E : XK} {P : V → Hp → Prop}
theorem ev_fld (h : Ev ta σ H (.ref p)) (hp : H p = some (.ins C dx fs)) (c : Cls K C) (n : NoAttr K C f) (l : fs.lookup f = some v) : Ev (tFld K ta f) σ H v := fun H1 e Q q =>
  h H1 e _ fun H2 e2 => ⟨p, C, dx, fs, v, rfl, (e.trans e2) _ _ hp, c, n, l, q H2 e2⟩
theorem ev_meth (h : Ev ta σ H (.ref p)) (hp : H p = some (.ins C dx fs)) (l : fs.lookup m = none) (ha : EvA t σ H vs) (hs : SpV sp (.ref p :: (vs ++ [])) H z) : Ev (tMeth C m sp [] E ta t) σ H z := fun H1 e Q q =>
  h H1 e _ fun H2 e2 => ⟨p, dx, fs, rfl, (e.trans e2) _ _ hp, l, ha H2 (e.trans e2) _ fun H3 e3 => hs H3 ((e.trans e2).trans e3) Q (fun H4 e4 => q H4 ((e2.trans e3).trans e4)) E⟩
theorem el_meth (h : Ev ta σ H (.ref p)) (hp : H p = some (.ins C dx fs)) (l : fs.lookup m = none) (ha : EvA t σ H vs) (hs : SpL sp (.ref p :: (vs ++ [])) H xs) : EvL (tMeth C m sp [] E ta t) σ H xs := fun H1 e Q q =>
  h H1 e _ fun H2 e2 => ⟨p, dx, fs, rfl, (e.trans e2) _ _ hp, l, ha H2 (e.trans e2) _ fun H3 e3 => hs H3 ((e.trans e2).trans e3) Q (fun r H4 hr e4 h4 => q r H4 (fresh_back (e2.trans e3) hr) ((e2.trans e3).trans e4) h4) E⟩
theorem eu_meth (h : Ev ta σ H (.ref p)) (hp : H p = some (.ins C dx fs)) (l : fs.lookup m = none) (ha : EvA t σ H vs) (hs : SpU sp (.ref p :: (vs ++ [])) H xs) : EvU (tMeth C m sp [] E ta t) σ H xs := fun H1 e Q q =>
  h H1 e _ fun H2 e2 => ⟨p, dx, fs, rfl, (e.trans e2) _ _ hp, l, ha H2 (e.trans e2) _ fun H3 e3 => hs H3 ((e.trans e2).trans e3) Q (fun r H4 hr e4 h4 => q r H4 (fresh_back (e2.trans e3) hr) ((e2.trans e3).trans e4) h4) E⟩
theorem s_meth (h : Ev ta σ H (.ref p)) (hp : H p = some (.ins C dx fs)) (l : fs.lookup m = none) (ha : EvA t σ H vs) (k : ∀ H1, Ex H H1 → sp (.ref p :: (vs ++ [])) H1 (fun _ H2 => D.nx σ H2) E) : tDrop (tMeth C m sp [] E ta t) D σ H :=
  h H (Ex.refl H) _ fun H2 e2 => ⟨p, dx, fs, rfl, e2 _ _ hp, l, ha H2 e2 _ fun H3 e3 => k H3 (e2.trans e3)⟩
theorem q_meth (h : Ev ta σ H (.ref p)) (hp : H p = some (.ins C dx fs)) (l : fs.lookup m = none) (ha : EvA t σ H vs) (k : ∀ H1, Ex H H1 → sp (.ref p :: (vs ++ [])) H1 (fun _ H2 => tz D σ H2) E) : tSeq (tDrop (tMeth C m sp [] E ta t)) tz D σ H :=
  s_meth (D := { D with nx := tz D }) h hp l ha k
theorem ev_prop (h : Ev ta σ H (.ref p)) (hp : H p = some (.ins C dx fs)) (hs : SpV sp [.ref p] H z) : Ev (tProp C sp [] E ta) σ H z := fun H1 e Q q =>
  h H1 e _ fun H2 e2 => ⟨p, dx, fs, rfl, (e.trans e2) _ _ hp, hs H2 (e.trans e2) Q (fun H3 e3 => q H3 (e2.trans e3)) E⟩
theorem ev_lenO {n : Nat} (h : Ev ta σ H (.ref p)) (hp : H p = some (.ins C dx fs)) (hs : SpV sp [.ref p] H (.int (n : Int))) (hn : n < 2 ^ 62) : Ev (tCB (rLenO C sp E) (tCons ta tNil)) σ H (.int (n : Int)) := fun H1 e Q q =>
  h H1 e _ fun H2 e2 => ⟨p, dx, fs, rfl, (e.trans e2) _ _ hp, hs H2 (e.trans e2) _ (fun H3 e3 => ⟨n, rfl, hn, q H3 (e2.trans e3)⟩) E⟩
theorem rv_inO {b : Bool} (hp : H p = some (.ins C dx fs)) (hs : SpV sp [.ref p, x] H (.bl b)) : RV (rInO C sp E false) x (.ref p) H (.bl b) := fun H1 e Q q =>
  ⟨p, dx, fs, rfl, e _ _ hp, hs H1 e _ (fun H2 e2 => ⟨b, rfl, q H2 e2⟩) E⟩
theorem rv_notInO {b : Bool} (hp : H p = some (.ins C dx fs)) (hs : SpV sp [.ref p, x] H (.bl b)) : RV (rInO C sp E true) x (.ref p) H (.bl (!b)) := fun H1 e Q q =>
  ⟨p, dx, fs, rfl, e _ _ hp, hs H1 e _ (fun H2 e2 => ⟨b, rfl, q H2 e2⟩) E⟩
theorem q_tupU {i j : Nat} {y : V} (h : EvU te σ H [x, y]) (k : ∀ H1, Ex H H1 → tz D ((σ.set i (some x)).set j (some y)) H1) : tSeq (tAsg te (gTup K 2 (gCons (gName i) (gCons (gName j) gNil)))) tz D σ H :=
  q_tupP2 (P := fun v H1 => ∃ t, v = .ref t ∧ SqT K H1 t [x, y]) (ep_U h fun p H1 H2 _ _ _ g => ⟨p, rfl, st_of g⟩) fun v H1 e1 ⟨t, ev, ht⟩ => ⟨t, x, y, ev, ht, k H1 e1⟩
theorem s_fldL (hv : EvL tv σ H xs) (ha : ∀ H1, Ex H H1 → Ev ta σ H1 (.ref p)) (hp : H p = some (.ins C dx fs)) (c : Cls K C) (n : NoAttr K C f) (hl : fs.length < 1000)
    (k : ∀ l H1, H l = none → Ex H H1 → H1 l = some (.lst xs) → D.nx σ (upd H1 p (.ins C dx (putF f (.ref l) fs)))) : sFld K ta tv f D σ H :=
  hv H (Ex.refl H) _ fun l H1 hl0 e1 h1 => ha H1 e1 H1 (Ex.refl H1) _ fun H2 e2 => ⟨p, C, dx, fs, rfl, (e1.trans e2) _ _ hp, c, n, hl, k l H2 hl0 (e1.trans e2) (e2 _ _ h1)⟩
theorem q_fldL (hv : EvL tv σ H xs) (ha : ∀ H1, Ex H H1 → Ev ta σ H1 (.ref p)) (hp : H p = some (.ins C dx fs)) (c : Cls K C) (n : NoAttr K C f) (hl : fs.length < 1000)
    (k : ∀ l H1, H l = none → Ex H H1 → H1 l = some (.lst xs) → tz D σ (upd H1 p (.ins C dx (putF f (.ref l) fs)))) : tSeq (sFld K ta tv f) tz D σ H :=
  s_fldL (D := { D with nx := tz D }) hv ha hp c n hl k
end
/-! repr of a number; more of drawn lists -/
section
variable {K : PySem.W.Frag} {σ : L2.St} {H : Hp} {ta tb te tl : TE} {a : Addr} {d d1 d2 n : Nat} {D : Ends} {tz : TS} {sp : Sp} {E : XK}
theorem ev_reprI {i : Int} (h : Ev te σ H (.int i)) (hz : i.natAbs.log2 < 1920) : Ev (tCB (fun xs H Q => ∃ i, xs = [V.int i] ∧ i.natAbs.log2 < 1920 ∧ Q (.str (toString i)) H) (tCons te tNil)) σ H (.str (toString i)) := fun H1 e Q q =>
  h H1 e _ fun H2 e2 => ⟨i, rfl, hz, q H2 e2⟩
theorem ew_intB (h : EvW a d te σ H (fun v => ∃ b, v = .bl b)) : EvW a d (tCB (fun xs H Q => (∃ i, xs = [V.int i] ∧ Q (.int i) H) ∨ ∃ k, xs = [V.bl k] ∧ Q (.int (if k then 1 else 0)) H) (tCons te tNil)) σ H (fun v => ∃ r, v = .int r ∧ (r = 0 ∨ r = 1)) := fun n H1 b w l Q q =>
  h n H1 b w l _ fun v H2 b2 w2 ⟨c, e⟩ => .inr ⟨c, by rw [e], q _ H2 b2 w2 (by
    cases c with
    | true => exact ⟨1, rfl, .inr rfl⟩
    | false => exact ⟨0, rfl, .inl rfl⟩)⟩
theorem ew_callL {v : V} {PL : List V → Prop} (h : EvWL a d te σ H PL) (hs : ∀ p xs H1, H1 p = some (.lst xs) → PL xs → SpV sp [.ref p] H1 v) : EvW a d (tCall sp [] E (tCons te tNil)) σ H (fun z => z = v) := fun n H1 bt w l Q q =>
  h n H1 bt w l _ fun p xs H2 hp b2 w2 g2 px => hs p xs H2 g2 px H2 (Ex.refl H2) Q (fun H3 e3 => q v H3 (b2.trans (But.ex e3)) (w2.ex e3) rfl) E
theorem q_asgRaw {i : Nat} (h : te σ H fun v H1 => tz D (σ.set i (some v)) H1) : tSeq (tAsg te (gName i)) tz D σ H := h
end
/-! ### what is kept but at some places -/
def Off (S : List Addr) (H H' : Hp) : Prop := ∀ b o, b ∉ S → H b = some o → H' b = some o
theorem Off.ex {S : List Addr} {H H' : Hp} (e : Ex H H') : Off S H H' := fun b o _ h => e b o h
theorem Off.but {a : Addr} {S : List Addr} {H H' : Hp} (e : But a H H') (h : a ∈ S) : Off S H H' := fun b o n g => e b o (fun z => n (z ▸ h)) g
theorem Off.trans {S : List Addr} {H H1 H2 : Hp} (x : Off S H H1) (y : Off S H1 H2) : Off S H H2 := fun b o n h => y b o n (x b o n h)
theorem Off.more {S S' : List Addr} {H H' : Hp} (x : Off S H H') (h : ∀ a ∈ S, a ∈ S') : Off S' H H' := fun b o n g => x b o (fun z => n (h b z)) g
theorem Off.back {S : List Addr} {H0 H H' : Hp} (e : Ex H0 H) (x : Off S H H') (h : ∀ a ∈ S, H0 a = none) : Ex H0 H' := fun b o g => x b o (fun z => by
  have := h b z
  rw [this] at g
  cases g) (e b o g)
theorem Off.less {S S' : List Addr} {H H' : Hp} (x : Off S H H') (h : ∀ a ∈ S, a ∉ S' → H a = none) : Off S' H H' := fun b o n g => x b o (fun z => by
  have := h b z n
  rw [this] at g
  cases g) g
end Bk
namespace Bk
open PySem PySem.Spec PyProof.Rows L2 Evl
/-- o.m(..), what is raised is wished for at the caller's slots -/
def tMethS (C : Addr) (m : Str) (sp : Sp) (E : L2.St → XK) (ta : TE) (t : TA) : TE := fun σ H Q => ta σ H fun x H1 => ∃ a dx fs, x = .ref a ∧ H1 a = some (.ins C dx fs) ∧ fs.lookup m = none ∧ t σ H1 fun vs H2 => sp (x :: vs) H2 Q (E σ)
section
variable {X : Cx} {CX : CXT} {k : Nat} {f C : Addr} {fd : FuncData} {ps ks : List Str} {sp : Sp} {E : L2.St → XK} {E0 : XK} {m : Str} {pos apos : Pos} {e o : Expr} {es : List Expr} {kws : List Keyword} {ta : TE} {t tk : TA}
theorem pe_methGS {pl : Sem Bool} (he : PE X o ta) (c : Cls X.K C) (hm : Meth X.K C m f) (F : FnG X.prog X.w X.K X.mg X.base CX k f fd ps sp) (hr : Rm k X.A) (hb : Binds X.K fd ps []) (hx : ∀ σ, PassesAt CX X σ (E σ)) (ha : PA X (e :: es) t)
    (hst : starEach (e :: es) X.env = (false, eval e X.env) :: starEach es X.env := by rfl) (hpl : (backTo pos (starEach es X.env)).any (·.1) = false := by rfl)
    (ht : eval (.Call (.Attribute o m apos) (e :: es) [] pos) X.env = (do
      let ov ← eval o X.env
      standAt apos.atName
      let (f, first) ← holding [ov] (getMethod ov m pl)
      callWith pos f first (backTo pos (starEach (e :: es) X.env)) (backToKw pos (keywordEach [] X.env))) := by rfl) :
    PE X (.Call (.Attribute o m apos) (e :: es) [] pos) (tMethS C m sp E ta t) := by
  refine ⟨fun pins s σ H Q I h => ?_⟩
  refine PySem.W.methodCall_KW (pl := pl) (thn (he.run pins s σ H _ I h) fun u s1 ⟨x, H1, I1, rx, a, dx, fs, ex, ea, l, q⟩ => ?_) ht
  subst ex
  obtain rfl : u = Value.ref a := rx
  refine getmeth_ok I1 ea c hm l ?_
  refine PySem.W.callWith_K (first := [.ref a]) (h₀ := X.base) I.ok.mod.kin hm.kp (thn (ha.run pos pins s1 σ H1 _ I1 q) fun us s2 ⟨vs, H2, I2, r, q2⟩ => ⟨I2.kIn, ?_⟩) hst hpl
  exact runGS (us := .ref a :: us) (vs := .ref a :: vs) F hr hb (hx σ) I2 (.cons rfl r) q2
theorem pe_methGS0 {pl : Sem Bool} (he : PE X o ta) (c : Cls X.K C) (hm : Meth X.K C m f) (F : FnG X.prog X.w X.K X.mg X.base CX k f fd ps sp) (hr : Rm k X.A) (hb : Binds X.K fd ps []) (hx : ∀ σ, PassesAt CX X σ (E σ))
    (ht : eval (.Call (.Attribute o m apos) [] [] pos) X.env = (do
      let ov ← eval o X.env
      standAt apos.atName
      let (f, first) ← holding [ov] (getMethod ov m pl)
      callWith pos f first (backTo pos (starEach [] X.env)) (backToKw pos (keywordEach [] X.env))) := by rfl) :
    PE X (.Call (.Attribute o m apos) [] [] pos) (tMethS C m sp E ta tNil) := by
  refine ⟨fun pins s σ H Q I h => ?_⟩
  refine PySem.W.methodCall_KW (pl := pl) (thn (he.run pins s σ H _ I h) fun u s1 ⟨x, H1, I1, rx, a, dx, fs, ex, ea, l, q⟩ => ?_) ht
  subst ex
  obtain rfl : u = Value.ref a := rx
  refine getmeth_ok I1 ea c hm l ?_
  exact PySem.W.callWith_K0 (first := [.ref a]) I1.kIn hm.kp (runGS (us := [.ref a]) (vs := [.ref a]) F hr hb (hx σ) I1 (.cons rfl .nil) q)
theorem runGKS {pins : List (Addr × Obj)} {σ : L2.St} {H : Hp} {s : Shared} {Q : VK} {us ws : List Value} {vs zs : List V} {g : List Value → List Value → List Value} {gV : List V → List V → List V} (F : FnG X.prog X.w X.K X.mg X.base CX k f fd ps sp) (hr : Rm k X.A) (hb : KBinds X.K fd ps ks g gV) (hx : PassesAt CX X σ (E σ))
    (I : Inv X pins σ H s) (r : Vals vs us) (rz : Vals zs ws) (h : sp (gV vs zs) H Q (E σ)) : wpAny (model X.prog X.w) X.A (call (.ref f) us (ks.zip ws)) (EP X pins σ Q) X.xe s := by
  have rv := hb.rel r rz
  have hl : (g us ws).length = ps.length := rv.length.symm.trans (F.len _ _ _ _ h)
  refine wpAny_call (codeAny_mono (F.run X.A X.stack s H ⟨us, ks.zip ws⟩ (g us ws) (gV vs zs) Q (E σ) hr I.env0 (hb.to s us ws I.kIn hl) rv h) fun r s' hq => ?_)
  cases r with
  | error e => exact hx pins H s e s' I hq
  | ok fl =>
    cases fl with
    | ret u => exact I.after hq
    | next => exact hq.elim
    | brk => exact hq.elim
    | cont => exact hq.elim
/-- o.m(k = e) in a try -/
def tMethKS (C : Addr) (m : Str) (sp : Sp) (gV : List V → List V → List V) (E : L2.St → XK) (ta : TE) (tk : TA) : TE := fun σ H Q => ta σ H fun x H1 => ∃ a dx fs, x = .ref a ∧ H1 a = some (.ins C dx fs) ∧ fs.lookup m = none ∧ tk σ H1 fun zs H2 => sp (gV [x] zs) H2 Q (E σ)
theorem pe_methGSK {pl : Sem Bool} {g : List Value → List Value → List Value} {gV : List V → List V → List V} (he : PE X o ta) (c : Cls X.K C) (hm : Meth X.K C m f) (F : FnG X.prog X.w X.K X.mg X.base CX k f fd ps sp) (hr : Rm k X.A) (hb : KBinds X.K fd ps ks g gV) (hx : ∀ σ, PassesAt CX X σ (E σ)) (hkw : PK X kws tk)
    (hall : (backToKw pos (keywordEach kws X.env)).all (·.1.isSome) = true := by rfl) (hks : (backToKw pos (keywordEach kws X.env)).filterMap (·.1) = ks := by rfl)
    (hpl : ((backTo pos (starEach [] X.env)).any (·.1) || (backToKw pos (keywordEach kws X.env)).any (·.1.isNone)) = false := by rfl)
    (ht : eval (.Call (.Attribute o m apos) [] kws pos) X.env = (do
      let ov ← eval o X.env
      standAt apos.atName
      let (f, first) ← holding [ov] (getMethod ov m pl)
      callWith pos f first (backTo pos (starEach [] X.env)) (backToKw pos (keywordEach kws X.env))) := by rfl) :
    PE X (.Call (.Attribute o m apos) [] kws pos) (tMethKS C m sp gV E ta tk) := by
  refine ⟨fun pins s σ H Q I h => ?_⟩
  refine PySem.W.methodCall_KW (pl := pl) (thn (he.run pins s σ H _ I h) fun u s1 ⟨x, H1, I1, rx, a, dx, fs, ex, ea, l, q⟩ => ?_) ht
  subst ex
  obtain rfl : u = Value.ref a := rx
  refine getmeth_ok I1 ea c hm l ?_
  refine PySem.W.callWith_KW0 (first := [.ref a]) (h₀ := X.base) I.ok.mod.kin hm.kp hall (thn (hkw.run pos pins s1 σ H1 _ I1 q) ?_) hpl
  intro ws s2 ⟨zs, H2, I2, rz, q2⟩
  refine ⟨I2.kIn, ?_⟩
  rw [hks]
  exact runGKS (us := [.ref a]) (vs := [.ref a]) F hr hb (hx σ) I2 (.cons rfl .nil) rz q2
end
section
variable {K : PySem.W.Frag} {σ : L2.St} {H : Hp} {ta te : TE} {t tk : TA} {D : Ends} {tz : TS} {p C dx : Addr} {fs : List (Str × V)} {m : Str} {v : V} {vs zs : List V} {sp : Sp} {E : L2.St → XK} {i : Nat}
/-- x = o.m(..) in a try -/
theorem s_asgMS (h : Ev ta σ H (.ref p)) (hp : H p = some (.ins C dx fs)) (l : fs.lookup m = none) (ha : EvA t σ H vs) (k : ∀ H1, Ex H H1 → sp (.ref p :: vs) H1 (fun v H2 => D.nx (σ.set i (some v)) H2) (E σ)) : tAsg (tMethS C m sp E ta t) (gName i) D σ H :=
  h H (Ex.refl H) _ fun H2 e2 => ⟨p, dx, fs, rfl, e2 _ _ hp, l, ha H2 e2 _ fun H3 e3 => k H3 (e2.trans e3)⟩
theorem s_asgMKS {gV : List V → List V → List V} (h : Ev ta σ H (.ref p)) (hp : H p = some (.ins C dx fs)) (l : fs.lookup m = none) (ha : EvA tk σ H zs) (k : ∀ H1, Ex H H1 → sp (gV [.ref p] zs) H1 (fun v H2 => D.nx (σ.set i (some v)) H2) (E σ)) : tAsg (tMethKS C m sp gV E ta tk) (gName i) D σ H :=
  h H (Ex.refl H) _ fun H2 e2 => ⟨p, dx, fs, rfl, e2 _ _ hp, l, ha H2 e2 _ fun H3 e3 => k H3 (e2.trans e3)⟩
theorem s_methS (h : Ev ta σ H (.ref p)) (hp : H p = some (.ins C dx fs)) (l : fs.lookup m = none) (ha : EvA t σ H vs) (k : ∀ H1, Ex H H1 → sp (.ref p :: vs) H1 (fun _ H2 => D.nx σ H2) (E σ)) : tDrop (tMethS C m sp E ta t) D σ H :=
  h H (Ex.refl H) _ fun H2 e2 => ⟨p, dx, fs, rfl, e2 _ _ hp, l, ha H2 e2 _ fun H3 e3 => k H3 (e2.trans e3)⟩
theorem rv_addS {x y : Str} (h : x.length + y.length ≤ 100000) : RV (fun x y H Q => ∃ i j, x = V.str i ∧ y = V.str j ∧ i.length + j.length ≤ sizeLine ∧ Q (.str (i ++ j)) H) (.str x) (.str y) H (.str (x ++ y)) := fun H1 e Q q =>
  ⟨x, y, rfl, rfl, sz_of h, q H1 (Ex.refl H1)⟩
theorem ev_strI {i : Int} (h : Ev te σ H (.int i)) (hz : i.natAbs.log2 < 1920) : Ev (tCB (fun xs H Q => ∃ i, xs = [V.int i] ∧ i.natAbs.log2 < 1920 ∧ Q (.str (toString i)) H) (tCons te tNil)) σ H (.str (toString i)) := fun H1 e Q q =>
  h H1 e _ fun H2 e2 => ⟨i, rfl, hz, q H2 e2⟩
theorem str_len {i : Int} (h : i.natAbs.log2 < 1900) : (toString i : Str).length ≤ 1901 := by
  have := shown_le (k := 1900) (ns := [i]) (by decide) (fun n hn => by rw [List.mem_singleton.mp hn]; exact h) (toString i : Str) (by
    rw [shownAll_ints]
    exact List.mem_singleton.mpr rfl)
  exact this
/-- xs.pop() -/
theorem s_pop {l : Addr} {xs : List V} {y : V} (h : Ev ta σ H (.ref l)) (hl : H l = some (.lst (xs ++ [y]))) (k : ∀ H1, Ex H H1 → D.nx σ (upd H1 l (.lst xs))) : tDrop (tBM0 K "list" rPop ta) D σ H :=
  h H (Ex.refl H) _ fun H2 e2 => ⟨.inl ⟨rfl, xs ++ [y], sq_of (e2 _ _ hl)⟩, l, xs ++ [y], y, rfl, rfl, e2 _ _ hl, by simp, by rw [List.dropLast_concat]; exact k H2 e2⟩
theorem q_pop {l : Addr} {xs : List V} {y : V} (h : Ev ta σ H (.ref l)) (hl : H l = some (.lst (xs ++ [y]))) (k : ∀ H1, Ex H H1 → tz D σ (upd H1 l (.lst xs))) : tSeq (tDrop (tBM0 K "list" rPop ta)) tz D σ H :=
  s_pop (D := { D with nx := tz D }) h hl k
end
end Bk
namespace Bk
open PySem PySem.Spec PyProof.Rows L2 Evl
/-! ### values of other kinds -/
/-- a value that is no integer: None, a truth, a text, a list, a tuple, a dict -/
def OddV (H : Hp) (x : V) : Prop := x = .non ∨ (∃ b, x = .bl b) ∨ (∃ s, x = .str s) ∨ (∃ a xs, x = .ref a ∧ H a = some (.lst xs)) ∨ (∃ a xs, x = .ref a ∧ H a = some (.tup xs)) ∨ (∃ a kvs, x = .ref a ∧ H a = some (.dK kvs))
theorem OddV.ex {H H' : Hp} {x : V} (h : OddV H x) (e : Ex H H') : OddV H' x := by
  rcases h with h | h | h | ⟨a, xs, h, g⟩ | ⟨a, xs, h, g⟩ | ⟨a, xs, h, g⟩
  · exact .inl h
  · exact .inr (.inl h)
  · exact .inr (.inr (.inl h))
  · exact .inr (.inr (.inr (.inl ⟨a, xs, h, e _ _ g⟩)))
  · exact .inr (.inr (.inr (.inr (.inl ⟨a, xs, h, e _ _ g⟩))))
  · exact .inr (.inr (.inr (.inr (.inr ⟨a, xs, h, e _ _ g⟩))))
theorem kb_none_int : kitB "NoneType" "int" = some false := by decide +kernel
theorem kb_bool_int : kitB "bool" "int" = some true := by decide +kernel
theorem kb_bool_bool : kitB "bool" "bool" = some true := by decide +kernel
theorem kb_str_int : kitB "str" "int" = some false := by decide +kernel
theorem kb_list_int : kitB "list" "int" = some false := by decide +kernel
theorem kb_tuple_int : kitB "tuple" "int" = some false := by decide +kernel
theorem kb_dict_int : kitB "dict" "int" = some false := by decide +kernel
section
variable {K : PySem.W.Frag} {σ : L2.St} {H : Hp} {ta tb te tl : TE} {t tr : TA} {D : Ends} {tu tz : TS} {v : V} {P : V → Hp → Prop} {PL : List V → Hp → Prop} {n : Nat}
/-- isinstance(x, int) and not isinstance(x, bool), of a value of another kind -/
theorem ev_odd {x : V} (h : Ev ta σ H x) (h2 : Ev tb σ H x) (o : OddV H x) : Ev (tAndV (tCB (rIsi K) (tCons ta (tCons (tC (.ty "int")) tNil))) (tNotV (tCB (rIsi K) (tCons tb (tCons (tC (.ty "bool")) tNil))))) σ H (.bl false) := by
  rcases o with rfl | ⟨b, rfl⟩ | ⟨s, rfl⟩ | ⟨a, xs, rfl, g⟩ | ⟨a, xs, rfl, g⟩ | ⟨a, kvs, rfl, g⟩
  · exact ev_andV (a := false) (b := false) (ev_isi h (fun _ _ => .base .non) kb_none_int) (fun h => nomatch h)
  · exact ev_andV (a := true) (b := false) (ev_isi h (fun _ _ => .base (.bl b)) kb_bool_int) fun _ => ev_notV (ev_isi h2 (fun _ _ => .base (.bl b)) kb_bool_bool)
  · exact ev_andV (a := false) (b := false) (ev_isi h (fun _ _ => .base (.str s)) kb_str_int) (fun h => nomatch h)
  · exact ev_andV (a := false) (b := false) (ev_isi h (fun _ e => .base (.lst (e _ _ g))) kb_list_int) (fun h => nomatch h)
  · exact ev_andV (a := false) (b := false) (ev_isi h (fun _ e => .base (.tup (e _ _ g))) kb_tuple_int) (fun h => nomatch h)
  · exact ev_andV (a := false) (b := false) (ev_isi h (fun _ e => .base (.dK (e _ _ g))) kb_dict_int) (fun h => nomatch h)
theorem ep_V (h : Ev te σ H v) (k : ∀ H1, Ex H H1 → P v H1) : EvP te σ H P := fun H1 e Q q => h H1 e _ fun H2 e2 => q v H2 e2 (k H2 (e.trans e2))
theorem ep_D (k : ∀ p H1, H1 p = some (.dK []) → P (.ref p) H1) : EvP tDNewK σ H P := fun H1 e Q q p hp => q (.ref p) _ (Ex.new hp) (k p _ upd_same)
theorem ed_V {d : PyData} (h : Ev te σ H v) (hd : ∀ H1, Dp K H1 v d) : EvD K te σ H d := ep_V h fun H1 _ => hd H1
theorem sho_bool (b : Bool) : Sho (.bool b) := by cases b <;> exact ⟨rfl, rfl, by decide, by rw [sizeLine_eq]; decide⟩
/-- arguments, with what is known of them -/
def EvAP (t : TA) (σ : L2.St) (H : Hp) (P : List V → Hp → Prop) : Prop := ∀ H1, Ex H H1 → ∀ Q : List V → Hp → Prop, (∀ vs H2, Ex H1 H2 → P vs H2 → Q vs H2) → t σ H1 Q
def AllP (P : V → Hp → Prop) (n : Nat) (vs : List V) (H : Hp) : Prop := vs.length = n ∧ ∀ v ∈ vs, P v H
theorem ap_nil : EvAP tNil σ H (AllP P 0) := fun H1 e Q q => q [] H1 (Ex.refl H1) ⟨rfl, fun _ h => nomatch h⟩
theorem ap_cons (mono : ∀ v H1 H2, Ex H1 H2 → P v H1 → P v H2) (h : EvP te σ H P) (hr : EvAP tr σ H (AllP P n)) : EvAP (tCons te tr) σ H (AllP P (n + 1)) := fun H1 e Q q =>
  h H1 e _ fun x H2 e2 px => hr H2 (e.trans e2) _ fun xs H3 e3 ⟨l, pxs⟩ => q (x :: xs) H3 (e2.trans e3) ⟨by rw [List.length_cons, l], fun v hv => by
    rcases List.mem_cons.mp hv with rfl | hv
    · exact mono _ _ _ e3 px
    · exact pxs v hv⟩
/-- a new list, with what is known of its items -/
def EvLP (te : TE) (σ : L2.St) (H : Hp) (P : List V → Hp → Prop) : Prop := ∀ H1, Ex H H1 → ∀ Q : VK, (∀ p xs H2, H1 p = none → Ex H1 H2 → H2 p = some (.lst xs) → P xs H2 → Q (.ref p) H2) → te σ H1 Q
theorem el_lstP (mono : ∀ v H1 H2, Ex H1 H2 → P v H1 → P v H2) (h : EvAP t σ H (AllP P n)) (hn : n ≤ 100000) : EvLP (tLst t) σ H (AllP P n) := fun H1 e Q q =>
  h H1 e _ fun xs H2 e2 ⟨l, px⟩ => ⟨sz_of (by omega), fun p hp => q p xs _ (fresh_back e2 hp) (e2.trans (Ex.new hp)) upd_same ⟨l, fun v hv => mono _ _ _ (Ex.new hp) (px v hv)⟩⟩
theorem s_forLP {j : Nat} (h : EvLP tl σ H PL) (Pv : Addr → List V → Nat → L2.St → Hp → Prop) (h0 : ∀ p xs H1, H p = none → Ex H H1 → H1 p = some (.lst xs) → PL xs H1 → Pv p xs 0 σ H1)
    (hl : ∀ p xs i σ' H', i ≤ xs.length → Pv p xs i σ' H' → SqL K H' p xs)
    (hs : ∀ p xs i x σ' H', xs[i]? = some x → Pv p xs i σ' H' → tu { D with nx := Pv p xs (i + 1), ct := Pv p xs (i + 1), bk := D.nx } (σ'.set j (some x)) H') (hd : ∀ p xs σ' H', Pv p xs xs.length σ' H' → D.nx σ' H') : tFor (iList K tl) (gName j) tu D σ H :=
  h H (Ex.refl H) _ fun p xs H1 hp e h1 px => ⟨p, rfl, ⟨xs, sq_of h1⟩, for_list (Pv p xs) (h0 p xs H1 hp e h1 px) (hl p xs) (fun i x σ' H' hx k => hs p xs i x σ' H' hx k) (hd p xs)⟩
theorem q_forLP {j : Nat} (h : EvLP tl σ H PL) (Pv : Addr → List V → Nat → L2.St → Hp → Prop) (h0 : ∀ p xs H1, H p = none → Ex H H1 → H1 p = some (.lst xs) → PL xs H1 → Pv p xs 0 σ H1)
    (hl : ∀ p xs i σ' H', i ≤ xs.length → Pv p xs i σ' H' → SqL K H' p xs)
    (hs : ∀ p xs i x σ' H', xs[i]? = some x → Pv p xs i σ' H' → tu { D with nx := Pv p xs (i + 1), ct := Pv p xs (i + 1), bk := tz D } (σ'.set j (some x)) H') (hd : ∀ p xs σ' H', Pv p xs xs.length σ' H' → tz D σ' H') : tSeq (tFor (iList K tl) (gName j) tu) tz D σ H :=
  s_forLP (D := { D with nx := tz D }) h Pv h0 hl hs hd
theorem oddmono : ∀ (v : V) (H1 H2 : Hp), Ex H1 H2 → OddV H1 v → OddV H2 v := fun _ _ _ e h => h.ex e
theorem eo_V (h : Ev te σ H v) (k : v = .non ∨ (∃ b, v = .bl b) ∨ (∃ s, v = .str s)) : EvP te σ H (fun v H1 => OddV H1 v) := ep_V h fun H1 _ => by
  rcases k with k | k | k
  · exact .inl k
  · exact .inr (.inl k)
  · exact .inr (.inr (.inl k))
theorem eo_L {xs : List V} (h : EvL te σ H xs) : EvP te σ H (fun v H1 => OddV H1 v) := ep_L h fun p H1 H2 _ _ _ g => .inr (.inr (.inr (.inl ⟨p, xs, rfl, g⟩)))
theorem eo_U {xs : List V} (h : EvU te σ H xs) : EvP te σ H (fun v H1 => OddV H1 v) := ep_U h fun p H1 H2 _ _ _ g => .inr (.inr (.inr (.inr (.inl ⟨p, xs, rfl, g⟩))))
theorem eo_D : EvP tDNewK σ H (fun v H1 => OddV H1 v) := ep_D fun p H1 g => .inr (.inr (.inr (.inr (.inr ⟨p, [], rfl, g⟩))))
end
end Bk
namespace Bk
open PySem PySem.Spec PyProof.Rows L2 Evl
/-! ### counting and finding flat items -/
def rCountF (K : PySem.W.Frag) : V → List V → Hp → VK → Prop := fun x xs H Q => ∃ (a : Addr) (ys : List V) (y : V), x = V.ref a ∧ xs = [y] ∧ SqL K H a ys ∧ flatV y = true ∧ ys.all flatV = true ∧ Q (.int ((ys.countP fun z => eqV z y : Nat) : Int)) H
theorem countP_flat {y : V} {ys : List V} {us : List Value} (h : Vals ys us) (f : ys.all flatV = true) : us.countP (eqU y) = ys.countP fun z => eqV z y := by
  induction h with
  | nil => rfl
  | cons r rs ih =>
    rw [List.all_cons, Bool.and_eq_true] at f
    rw [List.countP_cons, List.countP_cons, ih f.2, eqU_of r f.1]
theorem mt_countF {X : Cx} {K : PySem.W.Frag} (hK : X.K = K) : MtR X "list.count" (rCountF K) := by
  subst hK
  intro pins s σ H x xs v us Q I rx rxs h
  obtain ⟨a, ys, y, rfl, rfl, hs, fy, fys, q⟩ := h
  cases rx
  cases rxs with
  | cons ry rt =>
    rename_i uy ut
    cases rt
    obtain ⟨its, rv, ⟨⟨cls, dd, data, sl⟩, n, ho, hc, hdn, hd⟩, hlen⟩ := I.list hs
    simp only at hc hd
    subst hc hd
    refine call_meets PySem.F.slot_list_count ⟨_, ho, rfl⟩ PySem.F.entry_list_count (PySem.F.args_list_count_2 _ _) (SeqAt.list_countAt a its.toArray n dd sl uy (eqU y)) ⟨ho, fun u' hu' => mem_eqAt ry fy rv fys u' (by simpa using hu'), ?_⟩
    rw [show its.toArray.toList = its from rfl, countP_flat rv fys]
    exact ⟨.int _, H, I.tok _, ⟨_, rfl⟩, q⟩
theorem mt_indexK {X : Cx} {K : PySem.W.Frag} (hK : X.K = K) : MtR X "list.index" (rIndex K) := by
  subst hK
  exact mt_index
section
variable {K : PySem.W.Frag} {σ : L2.St} {H : Hp} {ta tb : TE}
def vb (bs : List Bool) : List V := bs.map .bl
theorem vb_flat : ∀ bs : List Bool, (vb bs).all flatV = true
  | [] => rfl
  | _ :: r => by
    show (flatV _ && (vb r).all flatV) = true
    rw [vb_flat r]
    rfl
theorem vb_count : ∀ bs : List Bool, ((vb bs).countP fun z => eqV z (.bl true)) = bs.count true
  | [] => rfl
  | b :: r => by
    show ((V.bl b :: vb r).countP fun z => eqV z (.bl true)) = _
    rw [List.countP_cons, List.count_cons, vb_count r]
    cases b <;> rfl
theorem ev_countB {l : Addr} {bs : List Bool} (ha : Ev ta σ H (.ref l)) (h : H l = some (.lst (vb bs))) (hb : Ev tb σ H (.bl true)) : Ev (tBM K "list" (rCountF K) ta (tCons tb tNil)) σ H (.int ((bs.count true : Nat) : Int)) := fun H1 e Q q =>
  ha H1 e _ fun H2 e2 => ⟨Or.inl ⟨rfl, _, sq_of ((e.trans e2) _ _ h)⟩, hb H2 (e.trans e2) _ fun H3 e3 => ⟨l, vb bs, .bl true, rfl, rfl, sq_of (((e.trans e2).trans e3) _ _ h), rfl, vb_flat bs, by
    rw [vb_count]
    exact q H3 (e2.trans e3)⟩⟩
theorem ev_indexB {l : Addr} {bs : List Bool} {j : Nat} (ha : Ev ta σ H (.ref l)) (h : H l = some (.lst (vb bs))) (hb : Ev tb σ H (.bl true)) (hj : bs[j]? = some true) (hn : ∀ m, m < j → bs[m]? = some false) : Ev (tBM K "list" (rIndex K) ta (tCons tb tNil)) σ H (.int (j : Nat)) := fun H1 e Q q =>
  ha H1 e _ fun H2 e2 => ⟨Or.inl ⟨rfl, _, sq_of ((e.trans e2) _ _ h)⟩, hb H2 (e.trans e2) _ fun H3 e3 => ⟨l, vb bs, .bl true, j, .bl true, rfl, rfl, sq_of (((e.trans e2).trans e3) _ _ h), rfl, vb_flat bs, by
    show (bs.map V.bl)[j]? = _
    rw [List.getElem?_map, hj]
    rfl, rfl, fun m z hm hz => by
    have hz : (bs.map V.bl)[m]? = some z := hz
    rw [List.getElem?_map, hn m hm] at hz
    cases hz
    rfl, q H3 (e2.trans e3)⟩⟩
end
section
variable {K : PySem.W.Frag} {σ : L2.St} {H : Hp} {ta tb te tl : TE} {t : TA} {D : Ends} {tu tz : TS} {P : V → Hp → Prop} {PL : List V → Hp → Prop} {n : Nat}
/-- [(y, x, z) for x in a new list] -/
theorem el_lcTup {j : Nat} {vs : List Nat} {y z : V} (mono : ∀ v H1 H2, Ex H1 H2 → P v H1 → P v H2) (h : EvLP tl σ H (AllP P n)) (hn : n ≤ 40000) (hw : ∀ x, wipe ((wipe σ vs).set j (some x)) vs = wipe σ vs) (he : ∀ x H1, Ex H H1 → EvU te ((wipe σ vs).set j (some x)) H1 [y, x, z]) :
    EvLP (tLc (iList K tl) (gName j) tYes te vs) σ H (fun ys H2 => ys.length = n ∧ ∀ v ∈ ys, ∃ (t : Addr) (x : V), v = .ref t ∧ H2 t = some (.tup [y, x, z]) ∧ P x H2) := fun H0 e Q q =>
  h H0 e _ fun a xs H1 ha e1 hx ⟨hl, px⟩ => ⟨a, rfl, ⟨xs, sq_of hx⟩, fun Dl hD =>
    lc_list (xs := xs) (fun i H' => Ex H1 H' ∧ ∃ acc : List V, H' Dl = some (.lst acc) ∧ acc.length = i ∧ ∀ v ∈ acc, ∃ (t : Addr) (x : V), v = .ref t ∧ t ≠ Dl ∧ H' t = some (.tup [y, x, z]) ∧ x ∈ xs) ⟨Ex.new hD, [], upd_same, rfl, fun _ h => nomatch h⟩ (fun i H' _ p => sq_of (p.1 _ _ hx)) (fun i x H' hi p => ⟨hw x, by
      obtain ⟨p1, acc, g, la, pa⟩ := p
      have hi' := (List.getElem?_eq_some_iff.mp hi).1
      refine et_yes (σ := (wipe σ vs).set j (some x)) (H := H') H' (Ex.refl H') _ fun H3 e3 => iteT ?_
      refine he x H3 (((e.trans e1).trans p1).trans e3) H3 (Ex.refl H3) _ fun t H4 ht e4 g4 => ?_
      have nt : t ≠ Dl := fun q => by
        rw [q, e3 _ _ g] at ht
        cases ht
      have e34 := e3.trans e4
      refine ⟨acc, e34 _ _ g, sz_lt (by omega), (p1.trans e34).mut hD, acc ++ [.ref t], upd_same, by rw [List.length_append, la]; rfl, fun v hv => ?_⟩
      rcases List.mem_append.mp hv with hv | hv
      · obtain ⟨t', x', ev, nt', gt', mx⟩ := pa v hv
        exact ⟨t', x', ev, nt', by rw [upd_ne nt']; exact e34 _ _ gt', mx⟩
      · rw [List.mem_singleton.mp hv]
        exact ⟨t, x, rfl, nt, by rw [upd_ne nt]; exact g4, List.mem_of_getElem? hi⟩⟩)
    (fun H' ⟨p1, acc, g, la, pa⟩ => q Dl acc H' (fresh_back e1 hD) (e1.trans p1) g ⟨by omega, fun v hv => by
      obtain ⟨t', x', ev, nt', gt', mx⟩ := pa v hv
      exact ⟨t', x', ev, gt', mono _ _ _ p1 (px x' mx)⟩⟩)⟩
theorem elp_mono {PL' : List V → Hp → Prop} (h : EvLP te σ H PL) (m : ∀ xs H1, Ex H H1 → PL xs H1 → PL' xs H1) : EvLP te σ H PL' := fun H1 e Q q => h H1 e Q fun p xs H2 hp e2 g pl => q p xs H2 hp e2 g (m xs H2 (e.trans e2) pl)
theorem el_catP {p : Addr} {xs : List V} (ha : Ev ta σ H (.ref p)) (hp : H p = some (.lst xs)) (h : EvLP tb σ H PL) (hz : ∀ ys H1, PL ys H1 → xs.length + ys.length ≤ 100000) (mono : ∀ ys H1 H2, Ex H1 H2 → PL ys H1 → PL ys H2) : EvLP (tOp rCat ta tb) σ H (fun zs H2 => ∃ ys, zs = xs ++ ys ∧ PL ys H2) := fun H1 e Q q =>
  ha H1 e _ fun H2 e2 => h H2 (e.trans e2) _ fun r ys H3 hr e3 g3 pl => ⟨p, r, xs, ys, rfl, rfl, ((e.trans e2).trans e3) _ _ hp, g3, sz_of (hz ys H3 pl), fun l hl => q l _ _ (fresh_back (e2.trans e3) hl) ((e2.trans e3).trans (Ex.new hl)) upd_same ⟨ys, rfl, mono _ _ _ (Ex.new hl) pl⟩⟩
theorem s_asgLP {i : Nat} (h : EvLP te σ H PL) (k : ∀ p xs H1, H p = none → Ex H H1 → H1 p = some (.lst xs) → PL xs H1 → D.nx (σ.set i (some (.ref p))) H1) : tAsg te (gName i) D σ H := h H (Ex.refl H) _ fun p xs H1 hp e g pl => k p xs H1 hp e g pl
theorem q_asgLP {i : Nat} (h : EvLP te σ H PL) (k : ∀ p xs H1, H p = none → Ex H H1 → H1 p = some (.lst xs) → PL xs H1 → tz D (σ.set i (some (.ref p))) H1) : tSeq (tAsg te (gName i)) tz D σ H := s_asgLP (D := { D with nx := tz D }) h k
/-- for x, y, z in a list -/
theorem q_for3 {a : Addr} {xs : List V} {i j l : Nat} (h : Ev tl σ H (.ref a)) (hx : SqL K H a xs) (Pv : Nat → L2.St → Hp → Prop) (h0 : ∀ H1, Ex H H1 → Pv 0 σ H1) (hl : ∀ n σ' H', n ≤ xs.length → Pv n σ' H' → SqL K H' a xs)
    (hs : ∀ n v σ' H', xs[n]? = some v → Pv n σ' H' → ∃ t x y z, v = .ref t ∧ SqT K H' t [x, y, z] ∧ tu { D with nx := Pv (n + 1), ct := Pv (n + 1), bk := tz D } (((σ'.set i (some x)).set j (some y)).set l (some z)) H') (hd : ∀ σ' H', Pv xs.length σ' H' → tz D σ' H') :
    tSeq (tFor (iList K tl) (gTup K 3 (gCons (gName i) (gCons (gName j) (gCons (gName l) gNil)))) tu) tz D σ H :=
  h H (Ex.refl H) _ fun H1 e => ⟨a, rfl, ⟨xs, ex_l e hx⟩, for_list (D := { D with nx := tz D }) Pv (h0 H1 e) hl (fun n v σ' H' hv p => by
    obtain ⟨t, x, y, z, rfl, ht, q⟩ := hs n v σ' H' hv p
    exact ⟨t, _, rfl, ht, rfl, _, _, rfl, _, _, rfl, _, _, rfl, rfl, q⟩) hd⟩
theorem s_callS {sp : Sp} {E : L2.St → XK} {vs : List V} (ha : EvA t σ H vs) (k : ∀ H1, Ex H H1 → sp vs H1 (fun _ H2 => D.nx σ H2) (E σ)) : tDrop (tCallS sp E t) D σ H := ha H (Ex.refl H) _ fun H1 e1 => k H1 e1
end
end Bk
namespace Bk
open PySem PySem.Spec PyProof.Rows L2 Evl
/-! ### a tuple that the program holds -/
def FrT (K : PySem.W.Frag) (a : Addr) (xs : List V) : Prop := ∃ (o : Obj) (its : Array Value) (n : Nat), K.lookup a = some o ∧ o.cls = .type "tuple" ∧ o.data = .seq its n ∧ its.size ≤ sizeLine ∧ Vals xs its.toList
theorem FrT.sq {K : PySem.W.Frag} {a : Addr} {xs : List V} (h : FrT K a xs) {H : Hp} : SqT K H a xs := .inr h
theorem frt3 {K : PySem.W.Frag} {a : Addr} {od : Option Addr} {n : Nat} {sl : Array (Option Value)} {u1 u2 u3 : Value} {x1 x2 x3 : V} (h : K.lookup a = some ⟨.type "tuple", od, .seq #[u1, u2, u3] n, sl⟩) (r1 : RelV x1 u1) (r2 : RelV x2 u2) (r3 : RelV x3 u3) : FrT K a [x1, x2, x3] :=
  ⟨_, _, _, h, rfl, rfl, by
    rw [sizeLine_eq]
    show 3 ≤ _
    decide, .cons r1 (.cons r2 (.cons r3 .nil))⟩
theorem cr_anyK {X : Cx} {K : PySem.W.Frag} (h : X.K = K) (hc : X.calm = true) : CallR X (.builtin "any") (rAny K) := by
  subst h
  exact cr_any hc
theorem kb_str_str : kitB "str" "str" = some true := by decide +kernel
section
variable {K : PySem.W.Frag} {σ : L2.St} {H : Hp} {ta te tl : TE} {D : Ends} {tz : TS}
theorem ev_anyN {bs : List Bool} (ha : EvL ta σ H (bs.map V.bl)) : Ev (tCB (rAny K) (tCons ta tNil)) σ H (.bl (bs.any id)) := fun H1 e Q q =>
  ha H1 e _ fun p H2 hp2 e2 h2 => ⟨p, bs, rfl, sq_of h2, q H2 e2⟩
/-- x, y, z = a tuple -/
theorem q_tup3 {i j l : Nat} {t : Addr} {x y z : V} (h : Ev te σ H (.ref t)) (ht : SqT K H t [x, y, z]) (k : ∀ H1, Ex H H1 → tz D (((σ.set i (some x)).set j (some y)).set l (some z)) H1) : tSeq (tAsg te (gTup K 3 (gCons (gName i) (gCons (gName j) (gCons (gName l) gNil))))) tz D σ H :=
  h H (Ex.refl H) _ fun H1 e1 => ⟨t, _, rfl, ex_t e1 ht, rfl, _, _, rfl, _, _, rfl, _, _, rfl, rfl, k H1 e1⟩
/-- a comprehension over a tuple of triples -/
theorem el_lcT3 {a : Addr} {xs : List V} {i j l : Nat} {vs : List Nat} (v : Nat → V) (its : List (V × V × V)) (h : Ev tl σ H (.ref a)) (hx : SqT K H a xs) (hz : xs.length ≤ 40000) (h3 : ∀ (n : Nat) x, xs[n]? = some x → ∃ t p, x = .ref t ∧ its[n]? = some p ∧ SqT K H t [p.1, p.2.1, p.2.2])
    (hw : ∀ x y z, wipe ((((wipe σ vs).set i (some x)).set j (some y)).set l (some z)) vs = wipe σ vs) (he : ∀ (n : Nat) p H1, Ex H H1 → its[n]? = some p → Ev te ((((wipe σ vs).set i (some p.1)).set j (some p.2.1)).set l (some p.2.2)) H1 (v n)) :
    EvL (tLc (iTup K tl) (gTup K 3 (gCons (gName i) (gCons (gName j) (gCons (gName l) gNil)))) tYes te vs) σ H (given xs.length (fun _ => true) v) := fun H0 e Q q => h H0 e _ fun H1 e1 => ⟨a, rfl, ⟨xs, ex_t (e.trans e1) hx⟩, fun Dl hD =>
  lc_tup (xs := xs) (Cw H1 (fun _ => true) v Dl) ⟨hD, Ex.new hD, upd_same⟩ (fun i H' _ p => ex_t ((e.trans e1).trans p.2.1) hx) (fun n x H' hi p => by
    have hl := (List.getElem?_eq_some_iff.mp hi).1
    obtain ⟨t, w, rfl, hp, ht⟩ := h3 n x hi
    exact ⟨t, _, rfl, ex_t ((e.trans e1).trans p.2.1) ht, rfl, _, _, rfl, _, _, rfl, _, _, rfl, rfl, hw _ _ _, cw_turn p (by omega) (fun H3 _ Q q => q H3 (Ex.refl H3)) fun _ => he n w H1 (e.trans e1) hp⟩)
    (fun H' p => q Dl H' (fresh_back e1 p.1) (e1.trans p.2.1) p.2.2)⟩
end
end Bk
namespace Bk
open PySem PySem.Spec PyProof.Rows L2 Evl SX
/-! ### texts: rules and readings -/
def rJoin (K : PySem.W.Frag) : V → List V → Hp → VK → Prop := fun x xs H Q => ∃ a p, ∃ ys : List Str, x = .str a ∧ xs = [.ref p] ∧ (SqL K H p (ys.map V.str) ∨ SqT K H p (ys.map V.str)) ∧ (ys.map (·.length)).sum + ys.length * a.length ≤ 16777216 ∧ Q (.str (Txt.join a ys)) H
def rSplit : V → List V → Hp → VK → Prop := fun x xs H Q => ∃ a b, x = .str a ∧ xs = [.str b] ∧ (b.length == 0) = false ∧ a.length + 2 ≤ sizeLine ∧ rNewStrs (Txt.split a b) H Q
def rT0 (g : Str → V) : V → List V → Hp → VK → Prop := fun x xs H Q => ∃ a, x = .str a ∧ xs = [] ∧ True ∧ Q (g a) H
def rT1 (g : Str → Str → V) : V → List V → Hp → VK → Prop := fun x xs H Q => ∃ a b, x = .str a ∧ xs = [.str b] ∧ Q (g a b) H
section
variable {X : Cx}
theorem mt_joinK {K : PySem.W.Frag} (h : X.K = K) : MtR X "str.join" (rJoin K) := by
  subst h
  exact mt_join
theorem mt_splitR : MtR X "str.split" rSplit := mt_split
theorem mt_isdigit0 : MtR X "str.isdigit" (rT0 fun a => .bl (Txt.isdigit a)) := mt_isdigit
theorem mt_isascii0 : MtR X "str.isascii" (rT0 fun a => .bl (Txt.isascii a)) := mt_isascii
theorem mt_startswith1 : MtR X "str.startswith" (rT1 fun a b => .bl (Txt.startswith a b)) := mt_startswith
theorem mt_endswith1 : MtR X "str.endswith" (rT1 fun a b => .bl (Txt.endswith a b)) := mt_endswith
end
section
variable {K : PySem.W.Frag} {σ : L2.St} {H : Hp} {ta tb te : TE} {a b : Str}
theorem ev_t0 {g : Str → V} (h : Ev ta σ H (.str a)) : Ev (tM0 (rT0 g) ta) σ H (g a) := fun H1 e Q q => h H1 e _ fun H2 e2 => ⟨⟨a, rfl⟩, a, rfl, rfl, trivial, q H2 e2⟩
theorem ev_t1 {g : Str → Str → V} (h : Ev ta σ H (.str a)) (h' : Ev tb σ H (.str b)) : Ev (tM1 (rT1 g) ta tb) σ H (g a b) := fun H1 e Q q => h H1 e _ fun H2 e2 => ⟨⟨a, rfl⟩, h' H2 (e.trans e2) _ fun H3 e3 => ⟨a, b, rfl, rfl, q H3 (e2.trans e3)⟩⟩
theorem ev_joinN {ys : List Str} (h : Ev ta σ H (.str a)) (h' : EvL tb σ H (ys.map V.str)) (hz : (ys.map (·.length)).sum + ys.length * a.length ≤ 16777216) : Ev (tM1 (rJoin K) ta tb) σ H (.str (Txt.join a ys)) := fun H1 e Q q =>
  h H1 e _ fun H2 e2 => ⟨⟨a, rfl⟩, h' H2 (e.trans e2) _ fun p H3 _ e3 g => ⟨a, p, ys, rfl, rfl, .inl (sq_of g), hz, q H3 (e2.trans e3)⟩⟩
theorem ev_join {ys : List Str} {p : Addr} (h : Ev ta σ H (.str a)) (h' : Ev tb σ H (.ref p)) (g : SqL K H p (ys.map V.str)) (hz : (ys.map (·.length)).sum + ys.length * a.length ≤ 16777216) : Ev (tM1 (rJoin K) ta tb) σ H (.str (Txt.join a ys)) := fun H1 e Q q =>
  h H1 e _ fun H2 e2 => ⟨⟨a, rfl⟩, h' H2 (e.trans e2) _ fun H3 e3 => ⟨a, p, ys, rfl, rfl, .inl (ex_l ((e.trans e2).trans e3) g), hz, q H3 (e2.trans e3)⟩⟩
theorem el_split (h : Ev ta σ H (.str a)) (h' : Ev tb σ H (.str b)) (hb : (b.length == 0) = false) (hz : a.length + 2 ≤ sizeLine) : EvL (tM1 rSplit ta tb) σ H ((Txt.split a b).map V.str) := fun H1 e Q q =>
  h H1 e _ fun H2 e2 => ⟨⟨a, rfl⟩, h' H2 (e.trans e2) _ fun H3 e3 => ⟨a, b, rfl, rfl, hb, hz, fun p hp => q p _ (fresh_back (e2.trans e3) hp) ((e2.trans e3).trans (Ex.new hp)) upd_same⟩⟩
theorem ev_bits {i : Int} (h : Ev ta σ H (.int i)) : Ev (tBits ta) σ H (.int (Builtin.Int.intBits i : Nat)) := fun H1 e Q q => h H1 e _ fun H2 e2 => ⟨i, rfl, q H2 e2⟩
theorem ev_slS {tl th : TO} {z : Str} {lo hi : Option Int} (h : Ev te σ H (.str z)) (h1 : EvO tl σ H lo) (h2 : EvO th σ H hi) (hz : z.length ≤ sizeLine) : Ev (tSl L2.rSlS te tl th) σ H (.str (cutS z lo hi)) := fun H1 e Q q =>
  h H1 e _ fun H2 e2 => h1 H2 (e.trans e2) _ fun H3 e3 => h2 H3 ((e.trans e2).trans e3) _ fun H4 e4 => ⟨z, rfl, hz, q H4 ((e2.trans e3).trans e4)⟩
theorem ev_intS {n : Int} (h : Ev ta σ H (.str a)) (hn : PySem.intText? a = some n) (hl : a.length ≤ 640) : Ev (tCB (fun xs H Q => ∃ a n, xs = [V.str a] ∧ PySem.intText? a = some n ∧ a.length ≤ 640 ∧ Q (.int n) H) (tCons ta tNil)) σ H (.int n) := fun H1 e Q q =>
  h H1 e _ fun H2 e2 => ⟨a, n, rfl, hn, hl, q H2 e2⟩
theorem ev_lenS (h : Ev ta σ H (.str a)) (hz : a.length ≤ sizeLine) : Ev (tCB (fun xs H Q => ∃ z : Str, xs = [V.str z] ∧ z.length ≤ sizeLine ∧ Q (.int z.length) H) (tCons ta tNil)) σ H (.int (a.length : Int)) := fun H1 e Q q => h H1 e _ fun H2 e2 => ⟨a, rfl, hz, q H2 e2⟩
variable {D : Ends} {tu tz : TS}
theorem q_forNEn {xs : List V} {tl : TE} {i j : Nat} (h : EvL tl σ H xs) (Pv : Addr → Nat → L2.St → Hp → Prop) (h0 : ∀ p H1, H p = none → Ex H H1 → H1 p = some (.lst xs) → Pv p 0 σ H1) (hl : ∀ p n σ' H', n ≤ xs.length → Pv p n σ' H' → SqL K H' p xs)
    (hs : ∀ p n x σ' H', xs[n]? = some x → Pv p n σ' H' → ∀ H1, Ex H' H1 → tu { D with nx := Pv p (n + 1), ct := Pv p (n + 1), bk := tz D } ((σ'.set i (some (.int (n : Nat)))).set j (some x)) H1) (hd : ∀ p σ' H', Pv p xs.length σ' H' → tz D σ' H') :
    tSeq (tFor (iEnum K (tCons tl tNil)) (g2 K i j) tu) tz D σ H :=
  h H (Ex.refl H) _ fun p H1 hp e h1 => ⟨p, xs, rfl, sq_of h1, for_Ite (D := { D with nx := tz D }) (Pv p) (h0 p H1 hp e h1) (hl p) (hs p) (hd p)⟩
end
section
variable {σ : L2.St} {H : Hp} {D : Ends} {tu tz : TS}
theorem q_forR3G {ta : TA} {i : Nat} {lo j c : Int} (h : EvA ta σ H [.int lo, .int j, .int c]) (l0 : 0 ≤ lo) (l1 : lo ≤ 100000) (h0 : 0 ≤ j) (h1 : j ≤ 100000) (c0 : 0 < c) (c1 : c ≤ 100000) (Pv : Nat → L2.St → Hp → Prop) (hp0 : ∀ H1, Ex H H1 → Pv 0 σ H1)
    (hs : ∀ (k : Nat) σ' H', lo + (k : Int) * c < j → Pv k σ' H' → tu { D with nx := Pv (k + 1), ct := Pv (k + 1), bk := tz D } (σ'.set i (some (.int (lo + (k : Int) * c)))) H') (hd : ∀ (k : Nat) σ' H', j ≤ lo + (k : Int) * c → Pv k σ' H' → tz D σ' H') : tSeq (tFor (iRng3 ta) (gName i) tu) tz D σ H :=
  s_forR3G (D := { D with nx := tz D }) h l0 l1 h0 h1 c0 c1 Pv hp0 hs hd
end
/-! ### texts: mathematics -/
theorem asc_S (l : List Nat) : Txt.isascii (S l) = l.all fun c => decide (c < 128) := by
  show (S l).cps.all _ = _
  rw [← Array.all_toList]
theorem dig_one : ∀ c : Fin 128, Unicode.isDigit c.val = (decide (48 ≤ c.val) && decide (c.val ≤ 57)) := by decide +kernel
def dg (c : Nat) : Bool := decide (48 ≤ c) && decide (c ≤ 57)
theorem dig_S {l : List Nat} (h : (l.all fun c => decide (c < 128)) = true) : Txt.isdigit (S l) = (decide (0 < l.length) && l.all dg) := by
  have e : Txt.isdigit (S l) = (decide (0 < l.length) && l.all Unicode.isDigit) := by
    show (decide ((S l).length > 0) && (S l).cps.all Unicode.isDigit) = _
    rw [S_len, ← Array.all_toList]
  rw [e]
  congr 1
  induction l with
  | nil => rfl
  | cons c r ih =>
    rw [List.all_cons, Bool.and_eq_true] at h
    rw [List.all_cons, List.all_cons, dig_one ⟨c, of_decide_eq_true h.1⟩]
    show (dg c && _) = _
    congr 1
    have e2 : Txt.isdigit (S r) = (decide (0 < r.length) && r.all Unicode.isDigit) := by
      show (decide ((S r).length > 0) && (S r).cps.all Unicode.isDigit) = _
      rw [S_len, ← Array.all_toList]
    exact ih h.2 e2
theorem dg_asc {l : List Nat} (h : l.all dg = true) : (l.all fun c => decide (c < 128)) = true := by
  rw [List.all_eq_true] at h ⊢
  intro c hc
  have := h c hc
  unfold dg at this
  simp only [Bool.and_eq_true, decide_eq_true_eq] at this
  exact decide_eq_true (by omega)
theorem starts_S (l m : List Nat) : Txt.startswith (S l) (S m) = (l.take m.length == m) := by
  unfold Txt.startswith
  rw [PySem.StrLaws.subAt_eq, S_len, S_len]
  show (decide (0 + m.length ≤ l.length) && ((l.drop 0).take m.length == m)) = _
  rw [List.drop_zero, Nat.zero_add]
  by_cases h : m.length ≤ l.length
  · rw [decide_eq_true h, Bool.true_and]
  · rw [decide_eq_false h, Bool.false_and]
    cases e : (l.take m.length == m) with
    | false => rfl
    | true =>
      have e1 := congrArg List.length (eq_of_beq e)
      rw [List.length_take] at e1
      omega
/-- the number that stands in a text from 0 on -/
def natT (l : List Nat) : Option Nat := if l.all dg = true ∧ l ≠ [] ∧ (l.take 1 = [48] → l = [48]) then some (NumText.digitsVal l) else none
def wholeT (l : List Nat) : Option Int := if l.take 1 = [45] then (match natT (l.drop 1) with | some n => if n = 0 then none else some (-(n : Int)) | none => none) else (match natT l with | some n => some (n : Int) | none => none)
def numT (n : Int) : List Nat := if n < 0 then 45 :: TL.numL n.natAbs else TL.numL n.natAbs
theorem dg_num (n : Nat) : (TL.numL n).all dg = true := by
  rw [List.all_eq_true]
  intro c hc
  have := TL.numL_digits n c hc
  unfold dg
  simp only [Bool.and_eq_true, decide_eq_true_eq]
  exact this
theorem numL_head (n : Nat) (h : n ≠ 0) : ∃ c r, TL.numL n = c :: r ∧ 49 ≤ c := by
  induction n using Nat.strongRecOn with
  | _ n ih =>
    by_cases h1 : n < 10
    · rw [TL.numL_lt h1]
      exact ⟨48 + n, [], rfl, by omega⟩
    · rw [TL.numL_step (by omega)]
      obtain ⟨c, r, e, k⟩ := ih (n / 10) (by omega) (by omega)
      rw [e]
      exact ⟨c, r ++ [48 + n % 10], rfl, k⟩
theorem natT_num (n : Nat) : natT (TL.numL n) = some n := by
  have key : (TL.numL n).take 1 = [48] → TL.numL n = [48] := fun h => by
    by_cases h0 : n = 0
    · subst h0
      rw [TL.numL_lt (by decide)]
    · obtain ⟨c, r, e, k⟩ := numL_head n h0
      rw [e] at h
      injection h with h1
      omega
  unfold natT
  rw [if_pos ⟨dg_num n, TL.numL_ne n, key⟩, TL.numL_val]
theorem wholeT_num (n : Int) : wholeT (numT n) = some n := by
  unfold wholeT numT
  by_cases h : n < 0
  · rw [if_pos h, if_pos (show (45 :: TL.numL n.natAbs).take 1 = [45] from rfl)]
    show (match natT (TL.numL n.natAbs) with | some n => if n = 0 then none else some (-(n : Int)) | none => none) = some n
    rw [natT_num]
    show (if n.natAbs = 0 then none else some (-(n.natAbs : Int))) = some n
    rw [if_neg (by omega)]
    congr 1
    omega
  · rw [if_neg h, if_neg, natT_num]
    · show some ((n.natAbs : Nat) : Int) = some n
      congr 1
      omega
    · intro z
      cases e : TL.numL n.natAbs with
      | nil => exact TL.numL_ne _ e
      | cons c r =>
        rw [e] at z
        injection z with z1
        have := TL.numL_digits n.natAbs c (by rw [e]; exact List.mem_cons_self ..)
        omega
theorem str_num (n : Int) : (Str.ofString (toString n)) = S (numT n) := by
  refine TL.ext_tl ?_
  unfold numT
  by_cases h : n < 0
  · obtain ⟨m, rfl⟩ : ∃ m : Nat, n = Int.negSucc m := ⟨n.natAbs - 1, by omega⟩
    rw [if_pos h]
    show TL.tl (Str.ofString ("-" ++ toString (m + 1))) = 45 :: TL.numL (m + 1)
    rw [TL.tl_ofString, String.toList_append, List.map_append, ← TL.tl_num (m + 1), TL.tl_ofString]
    rfl
  · obtain ⟨m, rfl⟩ : ∃ m : Nat, n = m := ⟨n.toNat, by omega⟩
    rw [if_neg h]
    exact TL.tl_num m
theorem natT_val {l : List Nat} {n : Nat} (h : natT l = some n) (hl : l.length ≤ 4300) : PySem.intText? (S l) = some (n : Int) := by
  unfold natT at h
  split at h
  · rename_i c
    cases h
    refine int_S ?_ c.2.1 hl
    exact c.1
  · cases h
def optI : Option Int → V
  | none => .non
  | some n => .int n
def optN : Option Nat → V
  | none => .non
  | some n => .int (n : Int)
theorem cut_from (l : List Nat) (k : Nat) : cutS (S l) (some (k : Int)) none = S (l.drop k) := by
  unfold cutS
  rw [S_len, HT.sIx_nat, HT.sIx_none]
  refine TL.ext_tl ?_
  show (l.drop (min k l.length)).take (l.length - min k l.length) = l.drop k
  by_cases h : k ≤ l.length
  · rw [Nat.min_eq_left h]
    exact List.take_of_length_le (by rw [List.length_drop]; omega)
  · rw [Nat.min_eq_right (by omega), List.drop_length, List.take_nil, List.drop_eq_nil_of_le (by omega)]
theorem cut_both (l : List Nat) (j k : Nat) : cutS (S l) (some (j : Int)) (some (k : Int)) = S ((l.drop j).take (k - j)) := by
  unfold cutS
  rw [S_len, HT.sIx_nat, HT.sIx_nat]
  refine TL.ext_tl ?_
  show (l.drop (min j l.length)).take (min k l.length - min j l.length) = (l.drop j).take (k - j)
  by_cases h : j ≤ l.length
  · rw [Nat.min_eq_left h]
    by_cases h2 : k ≤ l.length
    · rw [Nat.min_eq_left h2]
    · rw [Nat.min_eq_right (show l.length ≤ k by omega), List.take_of_length_le (by rw [List.length_drop]; omega), List.take_of_length_le (by rw [List.length_drop]; omega)]
  · rw [Nat.min_eq_right (show l.length ≤ j by omega), List.drop_length, List.take_nil, List.drop_eq_nil_of_le (by omega), List.take_nil]
theorem numT_len {n : Int} {k : Nat} (hk : 0 < k) (h0 : -(10 ^ k) < n) (h1 : n < 10 ^ k) : (numT n).length ≤ k + 1 := by
  have hn : n.natAbs < 10 ^ k := by
    have e : ((10 : Int) ^ k) = ((10 ^ k : Nat) : Int) := by simp
    rw [e] at h0 h1
    omega
  have := TL.numL_len hk hn
  unfold numT
  split
  · rw [List.length_cons]
    omega
  · omega
theorem slen (l : List Nat) (h : l.length ≤ 100000) : (S l).length ≤ sizeLine := by
  rw [S_len]
  exact sz_of h
/-- the texts of numbers, with a comma and a blank between -/
def rowT (ns : List Int) : List Nat := TL.joinL [44, 32] (ns.map numT)
theorem numT_free (n : Int) : ∀ c ∈ numT n, c = 45 ∨ (48 ≤ c ∧ c ≤ 57) := by
  intro c hc
  unfold numT at hc
  split at hc
  · rcases List.mem_cons.mp hc with h | h
    · exact .inl h
    · exact .inr (TL.numL_digits _ c h)
  · exact .inr (TL.numL_digits _ c hc)
theorem joinL_len (sep : List Nat) : ∀ ps : List (List Nat), (TL.joinL sep ps).length ≤ (ps.map (·.length)).sum + ps.length * sep.length
  | [] => by simp [TL.joinL]
  | [p] => by simp [TL.joinL]
  | p :: q :: r => by
    show (p ++ (sep ++ TL.joinL sep (q :: r))).length ≤ _
    have ih := joinL_len sep (q :: r)
    simp only [List.length_append, List.map_cons, List.sum_cons, List.length_cons, Nat.succ_mul] at ih ⊢
    omega
theorem split_row {ns : List Int} (h : ns ≠ []) : Txt.split (S (rowT ns)) (S [44, 32]) = ns.map fun n => S (numT n) := by
  rw [split_S (by decide) (by decide)]
  unfold rowT
  rw [spl_join (by simp [h])]
  · rw [List.map_map]
    rfl
  · intro p hp
    obtain ⟨n, _, rfl⟩ := List.mem_map.mp hp
    intro hc
    have := numT_free n _ hc
    omega
theorem join_row (ns : List Int) : Txt.join (S [44, 32]) (ns.map fun n => S (numT n)) = S (rowT ns) := by
  have := join_S [44, 32] (ns.map numT)
  rw [List.map_map] at this
  exact this
theorem numT_inj {m n : Int} (h : numT m = numT n) : m = n := by
  have := wholeT_num m
  rw [h, wholeT_num] at this
  cases this
  rfl
theorem log_num {n : Int} (h : n.natAbs < 2 ^ 1900) : n.natAbs.log2 < 1920 := Nat.lt_of_lt_of_le (PySem.Flt.log2_lt_of (k := 1900) (by decide) h) (by decide)
theorem bits_num {n : Int} (h : n.natAbs < 2 ^ 1900) : (((PySem.Builtin.Int.intBits n : Nat) : Int) ≤ 14000) := by
  have := PyProof.Rows.intBits_le h
  omega
theorem num_neg {n : Int} (h : n < 0) : ("-" : Str) ++ S (numT (-n)) = S (numT n) := by
  have e : numT n = 45 :: numT (-n) := by
    unfold numT
    rw [if_pos h, if_neg (by omega), Int.natAbs_neg]
  rw [e]
  exact S_cat [45] (numT (-n))
theorem numT_lt {n : Int} (h : n.natAbs < 2 ^ 1900) : (numT n).length ≤ 1901 := by
  have := str_len (i := n) (Nat.lt_of_lt_of_le (PySem.Flt.log2_lt_of (k := 1900) (by decide) h) (by decide))
  have e : (toString n : Str).length = (numT n).length := by
    show (Str.ofString (toString n)).length = _
    rw [str_num, S_len]
  omega
end Bk
namespace Bk
open PySem PySem.Spec PyProof.Rows L2 Evl SX
/-! ### f'..': readings -/
def EvJ (ts : List TE) (σ : L2.St) (H : Hp) (acc out : List Nat) : Prop := ∀ H1, Ex H H1 → ∀ Q : Str → Hp → Prop, (∀ H2, Ex H1 H2 → Q (S out) H2) → tJs ts (S acc) σ H1 Q
section
variable {K : PySem.W.Frag} {σ : L2.St} {H : Hp} {t te ta tb : TE} {ts : List TE} {a b out : List Nat}
theorem ej_nil : EvJ [] σ H a a := fun H1 e Q q => q H1 (Ex.refl H1)
theorem ej_cons (h : Ev t σ H (.str (S b))) (hz : a.length + b.length ≤ 100000) (r : EvJ ts σ H (a ++ b) out) : EvJ (t :: ts) σ H a out := fun H1 e Q q =>
  h H1 e _ fun H2 e2 => ⟨S b, rfl, by rw [S_cat, S_len, List.length_append]; exact sz_of hz, by
    rw [S_cat]
    exact r H2 (e.trans e2) Q fun H3 e3 => q H3 (e2.trans e3)⟩
theorem ev_js (h : EvJ ts σ H [] out) : Ev (fun σ H Q => tJs ts Str.empty σ H fun out H1 => Q (.str out) H1) σ H (.str (S out)) := fun H1 e Q q => h H1 e _ fun H2 e2 => q H2 e2
theorem ev_fmt {y : List Nat} (h : Ev te σ H (.str (S y))) (hz : y.length ≤ 100000) : Ev (tFmt te) σ H (.str (S y)) := fun H1 e Q q => h H1 e _ fun H2 e2 => .inl ⟨S y, rfl, slen y hz, q H2 e2⟩
theorem ev_addT (h : Ev ta σ H (.str (S a))) (h' : Ev tb σ H (.str (S b))) (hz : a.length + b.length ≤ 100000) : Ev (tOp (fun x y H Q => ∃ i j, x = V.str i ∧ y = V.str j ∧ i.length + j.length ≤ sizeLine ∧ Q (.str (i ++ j)) H) ta tb) σ H (.str (S (a ++ b))) :=
  ev_is (ev_op h h' (rv_addS (by rw [S_len, S_len]; exact hz))) (congrArg V.str (S_cat a b))
end
/-! ### lists of texts compared -/
def vs (ys : List (List Nat)) : List V := ys.map fun l => .str (S l)
def ds (ys : List (List Nat)) : List PyData := ys.map fun l => .str (S l)
def strsOk (ys : List (List Nat)) : Prop := ∀ l ∈ ys, (l.all fun c => decide (c < 1114112)) = true
theorem strsOk_of {ys : List (List Nat)} (h : (ys.all fun l => l.all fun c => decide (c < 1114112)) = true) : strsOk ys := fun l hl => List.all_eq_true.mp h l hl
theorem ok_S {l : List Nat} (h : (l.all fun c => decide (c < 1114112)) = true) : PyData.strOk (S l) = true := by
  show (S l).cps.all _ = true
  rw [← Array.all_toList]
  exact h
theorem dpAll_strs (K : PySem.W.Frag) (H : Hp) : ∀ ys : List (List Nat), DpAll K H (vs ys) (ds ys)
  | [] => .nil
  | y :: ys => .cons (.str _) (dpAll_strs K H ys)
theorem canLay_strs : ∀ {ys : List (List Nat)}, strsOk ys → PyData.canLayAll0 (ds ys) = true
  | [], _ => rfl
  | y :: ys, h => by
    show PyData.canLayAll0 (.str (S y) :: ds ys) = true
    rw [PyData.canLayAll0, PyData.canLay0, ok_S (h y (List.mem_cons_self ..)), canLay_strs fun l m => h l (List.mem_cons_of_mem _ m)]
    rfl
theorem depth_strs : ∀ ys : List (List Nat), PyData.depthAll (ds ys) = 0
  | [] => rfl
  | y :: ys => by
    show PyData.depthAll (.str (S y) :: ds ys) = 0
    rw [PyData.depthAll, PyData.depth, depth_strs ys]
    rfl
theorem shaped_strs {ys : List (List Nat)} (h : strsOk ys) : SeqAt.shaped (.list (ds ys)) = true := by
  unfold SeqAt.shaped
  rw [PyData.canLay0, PyData.depth, canLay_strs h, depth_strs]
  rfl
theorem eqvAll_strs : ∀ as bs : List (List Nat), PyData.eqvAll (ds as) (ds bs) = decide (as = bs)
  | [], [] => rfl
  | [], _ :: _ => rfl
  | _ :: _, [] => rfl
  | a :: as, b :: bs => by
    show PyData.eqvAll (.str (S a) :: ds as) (.str (S b) :: ds bs) = _
    rw [PyData.eqvAll, PyData.eqv, eqvAll_strs as bs, S_beq]
    by_cases h : a = b
    · by_cases h2 : as = bs
      · simp [h, h2]
      · simp [h, h2]
    · simp [h]
section
variable {K : PySem.W.Frag} {σ : L2.St} {H : Hp} {ta tb : TE} {as bs : List (List Nat)}
theorem ev_eqTT (ha : strsOk as) (hb : strsOk bs) (h1 : EvL ta σ H (vs as)) (h2 : EvL tb σ H (vs bs)) : Ev (tOp (rEqD K) ta tb) σ H (.bl (decide (as = bs))) := fun H1 e Q k =>
  h1 H1 e _ fun p H2 _ e2 g2 => h2 H2 (e.trans e2) _ fun q H3 _ e3 g3 => ⟨.list (ds as), .list (ds bs), .lst (sq_of (e3 _ _ g2)) (dpAll_strs K H3 as), .lst (sq_of g3) (dpAll_strs K H3 bs), shaped_strs ha, shaped_strs hb, by
    rw [PyData.eqv, eqvAll_strs]
    exact k H3 (e2.trans e3)⟩
theorem ev_eqPT {p : Addr} (ha : strsOk as) (hb : strsOk bs) (h1 : Ev ta σ H (.ref p)) (g : SqL K H p (vs as)) (h2 : EvL tb σ H (vs bs)) : Ev (tOp (rEqD K) ta tb) σ H (.bl (decide (as = bs))) := fun H1 e Q k =>
  h1 H1 e _ fun H2 e2 => h2 H2 (e.trans e2) _ fun q H3 _ e3 g3 => ⟨.list (ds as), .list (ds bs), .lst (ex_l ((e.trans e2).trans e3) g) (dpAll_strs K H3 as), .lst (sq_of g3) (dpAll_strs K H3 bs), shaped_strs ha, shaped_strs hb, by
    rw [PyData.eqv, eqvAll_strs]
    exact k H3 (e2.trans e3)⟩
end
theorem tup_lst {H : Hp} {r l : Addr} {us xs : List V} (h : H r = some (.tup us)) (g : H l = some (.lst xs)) : r ≠ l := fun z => by
  rw [z, g] at h
  cases h
theorem well_lst {H : Hp} {a : Addr} {n : Nat} (w : Well H a n) : ∃ xs, H a = some (.lst xs) := by
  obtain ⟨x, y, c, q1, q2⟩ := w
  exact ⟨_, q1⟩
/-! ### the texts of rules: split at ' + ' -/
theorem pre_plus {p q : List Nat} (h : 43 ∉ p) : ∀ i, i < p.length → TL.pre [32, 43, 32] ((p ++ ([32, 43, 32] ++ q)).drop i) = false := fun i hi => by
  have hlt : i < (p ++ ([32, 43, 32] ++ q)).length := by rw [List.length_append]; omega
  rw [List.drop_eq_getElem_cons hlt]
  have hlt2 : i + 1 < (p ++ ([32, 43, 32] ++ q)).length := by
    rw [List.length_append, List.length_append]
    show _ < _ + (3 + _)
    omega
  rw [List.drop_eq_getElem_cons hlt2]
  have n2 : (p ++ ([32, 43, 32] ++ q))[i + 1] ≠ 43 := by
    by_cases c : i + 1 < p.length
    · rw [List.getElem_append_left c]
      exact fun z => h (z ▸ List.getElem_mem c)
    · rw [List.getElem_append_right (by omega)]
      have e : i + 1 - p.length = 0 := by omega
      simp only [e]
      show (32 : Nat) ≠ 43
      decide
  generalize (p ++ ([32, 43, 32] ++ q))[i] = c1
  generalize (p ++ ([32, 43, 32] ++ q))[i + 1] = c2 at n2
  show ((c1 :: c2 :: _).take 3 == [32, 43, 32]) = false
  refine beq_eq_false_iff_ne.mpr fun z => ?_
  simp only [List.take_succ_cons, List.cons.injEq] at z
  exact n2 z.2.1
theorem pre_plus_last {p : List Nat} (h : 43 ∉ p) : ∀ i, i < p.length → TL.pre [32, 43, 32] (p.drop i) = false := fun i hi => by
  rw [List.drop_eq_getElem_cons hi]
  have hm : 43 ∉ p.drop (i + 1) := fun m => h (List.mem_of_mem_drop m)
  generalize p[i] = c1
  generalize p.drop (i + 1) = r at hm
  show ((c1 :: r).take 3 == [32, 43, 32]) = false
  refine beq_eq_false_iff_ne.mpr fun z => ?_
  cases r with
  | nil => simp at z
  | cons c2 r =>
    simp only [List.take_succ_cons, List.cons.injEq] at z
    exact hm (by rw [z.2.1]; exact List.mem_cons_self ..)
theorem spl_plus : ∀ {parts : List (List Nat)}, parts ≠ [] → (∀ p ∈ parts, 43 ∉ p) → TL.spl [32, 43, 32] 0 [] (TL.joinL [32, 43, 32] parts) = parts
  | [], h, _ => absurd rfl h
  | [p], _, hp => by
    show TL.spl [32, 43, 32] 0 [] p = [p]
    rw [TL.spl_last (pre_plus_last (hp p (List.mem_singleton.mpr rfl))), List.nil_append]
  | p :: q :: r, _, hp => by
    show TL.spl [32, 43, 32] 0 [] (p ++ ([32, 43, 32] ++ TL.joinL [32, 43, 32] (q :: r))) = p :: q :: r
    rw [TL.spl_part (by simp) (pre_plus (hp p (List.mem_cons_self ..))), List.nil_append, spl_plus (by simp) fun z hz => hp z (List.mem_cons_of_mem _ hz)]
def PI (lo hi : Int) : V → Prop := fun v => ∃ c : Int, v = .int c ∧ lo ≤ c ∧ c ≤ hi
theorem ew_i {σ : L2.St} {H : Hp} {te : TE} {a : Addr} {c lo hi : Int} (h : Ev te σ (hid a H) (.int c)) (h0 : lo ≤ c) (h1 : c ≤ hi) : EvW a 0 te σ H (PI lo hi) := ew_pure h ⟨c, rfl, h0, h1⟩
theorem ewx_nil {σ : L2.St} {H : Hp} {a : Addr} {P : V → Prop} : EvWA a 0 tNil σ H (fun vs => vs.length = 0 ∧ ∀ v ∈ vs, P v) := fun n H1 b w l Q q => q [] H1 (But.refl a H1) w ⟨rfl, fun _ h => nomatch h⟩
theorem ewx_cons {σ : L2.St} {H : Hp} {a : Addr} {P : V → Prop} {d1 d2 n : Nat} {te : TE} {tr : TA} (h : EvW a d1 te σ H P) (hr : EvWA a d2 tr σ H (fun vs => vs.length = n ∧ ∀ v ∈ vs, P v)) : EvWA a (d1 + d2) (tCons te tr) σ H (fun vs => vs.length = n + 1 ∧ ∀ v ∈ vs, P v) :=
  ewa_mono (ewa_cons h hr) fun vs ⟨x, xs, e, px, l, hx⟩ => by
    subst e
    refine ⟨by rw [List.length_cons, l], fun v hv => ?_⟩
    rcases List.mem_cons.mp hv with rfl | hv
    · exact px
    · exact hx v hv
theorem ew_pi {K : PySem.W.Frag} {σ : L2.St} {H : Hp} {a : Addr} {i : Nat} {E : XK} {te : TE} {m lo hi : Int} (hσ : σ[i]? = some (some (.ref a))) (h : Ev te σ (hid a H) (.int m)) (h0 : 0 < m) (h1 : m < 2 ^ 250) (l : 0 ≤ lo) (u : m ≤ hi + 1) (z : lo = 0) : EvW a 1 (tCall (sp_dr K) [] E (tCons (tVar i) (tCons te tNil))) σ H (PI lo hi) :=
  (ew_drawC hσ h h0 (lt8000 h1)).mono fun v ⟨r, e, r0, r1⟩ => ⟨r, e, by omega, by omega⟩
theorem ew_pisub {σ : L2.St} {H : Hp} {a : Addr} {ta tb : TE} {d : Nat} {lo hi lo' hi' k : Int} (h : EvW a d ta σ H (PI lo hi)) (h' : Ev tb σ (hid a H) (.int k)) (l : lo' ≤ lo - k) (u : hi - k ≤ hi') : EvW a (d + 0) (tOp (rI0 fun i j => .int (i - j)) ta tb) σ H (PI lo' hi') :=
  ew_op (P2 := fun v => v = .int k) h (ew_pure h' rfl) fun x y ⟨r, e, r0, r1⟩ e2 => ⟨.int (r - k), fun H => by subst e e2; exact rv_I0, _, rfl, by omega, by omega⟩
theorem ew_piadd {σ : L2.St} {H : Hp} {a : Addr} {ta tb : TE} {d : Nat} {lo hi lo' hi' k : Int} (h' : Ev ta σ (hid a H) (.int k)) (h : EvW a d tb σ H (PI lo hi)) (l : lo' ≤ k + lo) (u : k + hi ≤ hi') : EvW a (0 + d) (tOp (rI0 fun i j => .int (i + j)) ta tb) σ H (PI lo' hi') :=
  ew_op (P1 := fun v => v = .int k) (ew_pure h' rfl) h fun x y e2 ⟨r, e, r0, r1⟩ => ⟨.int (k + r), fun H => by subst e e2; exact rv_I0, _, rfl, by omega, by omega⟩
theorem given_map (ns : List Int) (f : Int → V) : given ns.length (fun _ => true) (fun i => f (ns.getD i 0)) = ns.map f := by
  rw [given_all]
  refine List.ext_getElem (by simp) fun i h1 h2 => ?_
  simp at h1
  simp [List.getD_eq_getElem?_getD, h1]
def RtOk (ns : List Int) : Prop := ns ≠ [] ∧ ns.length ≤ 4000 ∧ ∀ n ∈ ns, n.natAbs < 2 ^ 1900 ∧ (numT n).length ≤ 640
theorem RtOk.pos {ns : List Int} (h : RtOk ns) : 0 < ns.length := List.length_pos_iff.mpr h.1
theorem RtOk.sum {ns : List Int} (h : RtOk ns) : ((ns.map fun n => S (numT n)).map (·.length)).sum ≤ ns.length * 640 := by
  have e := PySem.StrLaws.sumLen_le (B := 640) (ns.map fun n => S (numT n)) fun y hy => by
    obtain ⟨n, hn, rfl⟩ := List.mem_map.mp hy
    rw [S_len]
    exact (h.2.2 n hn).2
  rw [List.length_map] at e
  exact e
theorem RtOk.fits {ns : List Int} (h : RtOk ns) : ((ns.map fun n => S (numT n)).map (·.length)).sum + (ns.map fun n => S (numT n)).length * (S [44, 32]).length ≤ 16777216 := by
  have e := h.sum
  have h1 := h.2.1
  rw [List.length_map, S_len]
  show _ + ns.length * 2 ≤ _
  omega
theorem RtOk.len {ns : List Int} (h : RtOk ns) : (rowT ns).length + 2 ≤ sizeLine := by
  have e := joinL_len [44, 32] (ns.map numT)
  have e2 := h.sum
  rw [List.map_map] at e2
  have e3 : ((ns.map numT).map (·.length)).sum = (ns.map ((·.length) ∘ fun n => S (numT n))).sum := by
    rw [List.map_map]
    congr 1
  rw [e3, List.length_map] at e
  have h1 := h.2.1
  have e4 : ([44, 32] : List Nat).length = 2 := rfl
  rw [e4] at e
  unfold rowT
  show _ ≤ 2 ^ 24
  omega
def NumOk (z : Int) : Prop := -(10 ^ 60) ≤ z ∧ z ≤ 10 ^ 60
theorem p59 : (10 : Int) ^ Int.toNat 59 = 100000000000000000000000000000000000000000000000000000000000 := by decide
theorem p60 : (10 : Int) ^ 60 = 1000000000000000000000000000000000000000000000000000000000000 := by decide
theorem p60' : (10 : Int) ^ Int.toNat 60 = 1000000000000000000000000000000000000000000000000000000000000 := by decide
theorem mul_lt9 {x y : Int} (hx0 : 0 ≤ x) (hx : x < 10 ^ Int.toNat 9) (hy0 : 0 ≤ y) (hy : y < 10 ^ Int.toNat 9) : 0 ≤ x * y ∧ x * y ≤ 1000000000000000000 := by
  have e : (10 : Int) ^ Int.toNat 9 = 1000000000 := by decide
  rw [e] at hx hy
  refine ⟨Int.mul_nonneg hx0 hy0, ?_⟩
  have := Int.mul_le_mul (show x ≤ 1000000000 by omega) (show y ≤ 1000000000 by omega) hy0 (by decide)
  omega
theorem num_ok {z : Int} (h : NumOk z) : z.natAbs < 2 ^ 1900 ∧ (numT z).length ≤ 640 := by
  unfold NumOk at h
  rw [p60] at h
  have e : (2 : Nat) ^ 240 = 1766847064778384329583297500742918515827483896875618958121606201292619776 := by decide
  have hz : z.natAbs < 2 ^ 240 := by
    rw [e]
    omega
  refine ⟨Nat.lt_of_lt_of_le hz (Nat.pow_le_pow_right (by decide) (by decide)), ?_⟩
  have e61 : (10 : Int) ^ 61 = 10000000000000000000000000000000000000000000000000000000000000 := by decide
  have h0 : -(10 ^ 61) < z := by
    rw [e61]
    omega
  have h1 : z < 10 ^ 61 := by
    rw [e61]
    omega
  have := numT_len (n := z) (k := 61) (by decide) h0 h1
  omega
theorem rt_ok {ns : List Int} (h0 : 0 < ns.length) (h1 : ns.length ≤ 300) (h : ∀ z ∈ ns, NumOk z) : RtOk ns := ⟨List.length_pos_iff.mp h0, by omega, fun n hn => num_ok (h n hn)⟩
theorem num_wide {ns : List Int} (h : ∀ z ∈ ns, NumOk z) : wide 1900 ns := fun n hn => by
  have := h n hn
  unfold NumOk at this
  rw [p60] at this
  have e : (2 : Nat) ^ 240 = 1766847064778384329583297500742918515827483896875618958121606201292619776 := by decide
  have hz : n.natAbs < 2 ^ 240 := by
    rw [e]
    omega
  exact Nat.lt_of_lt_of_le (PySem.Flt.log2_lt_of (k := 240) (by decide) hz) (by decide)
theorem cut_one {ns : List Int} {j : Nat} {x : Int} (h : ns[j]? = some x) : cutV (vi ns) (some (j : Int)) (some ((j : Int) + 1)) = vi [x] := by
  have hj := (List.getElem?_eq_some_iff.mp h).1
  have hx := (List.getElem?_eq_some_iff.mp h).2
  unfold cutV
  rw [show (j : Int) + 1 = ((j + 1 : Nat) : Int) from rfl, HT.sIx_nat, HT.sIx_nat, List.length_map, Nat.min_eq_left (by omega), Nat.min_eq_left (by omega), show j + 1 - j = 1 by omega, ← List.map_drop, ← List.map_take, List.drop_eq_getElem_cons hj, hx]
  rfl
theorem num_len {z : Int} (h : NumOk z) : (numT z).length ≤ 62 := by
  unfold NumOk at h
  rw [p60] at h
  have e61 : (10 : Int) ^ 61 = 10000000000000000000000000000000000000000000000000000000000000 := by decide
  have h0 : -(10 ^ 61) < z := by
    rw [e61]
    omega
  have h1 : z < 10 ^ 61 := by
    rw [e61]
    omega
  exact numT_len (n := z) (k := 61) (by decide) h0 h1
end Bk
namespace Bk
open PySem PySem.Spec PyProof.Rows L2 Evl SX
/-! ### an integer, or a value of another kind -/
def NV (H : Hp) (v : V) (o : Option Int) : Prop := match o with | some m => v = .int m | none => OddV H v
theorem NV.ex {H H' : Hp} {v : V} {o : Option Int} (h : NV H v o) (e : Ex H H') : NV H' v o := by
  cases o with
  | none => exact OddV.ex h e
  | some m => exact h
def inZ (o : Option Int) (lo hi : Int) : Bool := match o with | some m => decide (lo ≤ m) && decide (m ≤ hi) | none => false
theorem nv_opt {H : Hp} (o : Option Int) : NV H (optI o) o := by
  cases o with
  | none => exact .inl rfl
  | some m => rfl
/-! ### words of lists -/
def rInsert : V → List V → Hp → VK → Prop := fun x vs H Q => ∃ (l : Addr) (xs : List V) (i : Int) (y : V), x = .ref l ∧ vs = [.int i, y] ∧ H l = some (.lst xs) ∧ xs.length < sizeLine ∧ 0 ≤ i ∧ i < 2 ^ 63 ∧ Q .non (upd H l (.lst (xs.take i.toNat ++ [y] ++ xs.drop i.toNat)))
theorem mt_insertR {X : Cx} : MtR X "list.insert" rInsert := mt_insert
section
variable {K : PySem.W.Frag} {σ : L2.St} {H : Hp} {ta tb te : TE} {D : Ends} {tz : TS}
theorem s_insert {l : Addr} {xs : List V} {i : Nat} {y : V} (hl : H l = some (.lst xs)) (h : Ev ta σ H (.ref l)) (h1 : Ev tb σ H (.int (i : Int))) (h2 : Ev te σ H y) (hz : xs.length < 100000) (hi : i ≤ 100000) (k : ∀ H1, Ex H H1 → D.nx σ (upd H1 l (.lst (xs.take i ++ [y] ++ xs.drop i)))) : tDrop (tBM K "list" rInsert ta (tCons tb (tCons te tNil))) D σ H :=
  h H (Ex.refl H) _ fun H1 e1 => ⟨.inl ⟨rfl, xs, sq_of (e1 _ _ hl)⟩, h1 H1 e1 _ fun H2 e2 => h2 H2 (e1.trans e2) _ fun H3 e3 => ⟨l, xs, (i : Int), y, rfl, rfl, ((e1.trans e2).trans e3) _ _ hl, sz_lt hz, by omega, by omega, by rw [Int.toNat_natCast]; exact k H3 ((e1.trans e2).trans e3)⟩⟩
theorem s_popAt {l : Addr} {xs : List V} {i : Nat} (hl : H l = some (.lst xs)) (h : Ev ta σ H (.ref l)) (h1 : Ev tb σ H (.int (i : Int))) (hi : i < xs.length) (hz : xs.length ≤ 100000) (k : ∀ H1, Ex H H1 → D.nx σ (upd H1 l (.lst (xs.eraseIdx i)))) : tDrop (tBM K "list" rPopAt ta (tCons tb tNil)) D σ H :=
  h H (Ex.refl H) _ fun H1 e1 => ⟨.inl ⟨rfl, xs, sq_of (e1 _ _ hl)⟩, h1 H1 e1 _ fun H2 e2 => ⟨l, xs, (i : Int), i, xs[i], rfl, rfl, (e1.trans e2) _ _ hl, by omega, by omega, by
    obtain ⟨j, e, ej, _⟩ := atI_get (atI_nat (List.getElem?_eq_getElem hi))
    have e2 : seqIndex? (i : Int) xs.length = some i := by
      unfold seqIndex?
      simp only []
      rw [if_neg (show ¬ (i : Int) < 0 by omega), if_pos (by simp; omega), Int.toNat_natCast]
    exact e2, List.getElem?_eq_getElem hi, k H2 (e1.trans e2)⟩⟩
end
theorem cutV_both (xs : List V) (j k : Nat) : cutV xs (some (j : Int)) (some (k : Int)) = (xs.drop j).take (k - j) := by
  unfold cutV
  rw [HT.sIx_nat, HT.sIx_nat]
  by_cases h : j ≤ xs.length
  · rw [Nat.min_eq_left h]
    by_cases h2 : k ≤ xs.length
    · rw [Nat.min_eq_left h2]
    · rw [Nat.min_eq_right (show xs.length ≤ k by omega), List.take_of_length_le (by rw [List.length_drop]; omega), List.take_of_length_le (by rw [List.length_drop]; omega)]
  · rw [Nat.min_eq_right (show xs.length ≤ j by omega), List.drop_length, List.take_nil, List.drop_eq_nil_of_le (by omega), List.take_nil]
/-! ### split, of any text -/
def prts (sep l : List Nat) : List (List Nat) := TL.spl sep 0 [] l
theorem prts_S {sep l : List Nat} (h : sep ≠ []) (hk : (sep.all (· < 256)) = true) : Txt.split (S l) (S sep) = (prts sep l).map S := split_S h hk
theorem prts_join {sep l : List Nat} (h : sep ≠ []) (hk : (sep.all (· < 256)) = true) : TL.joinL sep (prts sep l) = l := by
  have e := PySem.StrLaws.join_split (S l) (S sep)
  rw [prts_S h hk] at e
  have e2 := congrArg TL.tl e
  rw [TL.tl_join, List.map_map] at e2
  have e3 : (prts sep l).map (TL.tl ∘ S) = prts sep l := by
    rw [show (TL.tl ∘ S) = id from rfl, List.map_id]
  rw [e3] at e2
  exact e2
theorem joinL_sub (sep : List Nat) : ∀ {ps : List (List Nat)} {p : List Nat}, p ∈ ps → ∀ c ∈ p, c ∈ TL.joinL sep ps
  | [], p, h, c, hc => by cases h
  | [q], p, h, c, hc => by
    rw [List.mem_singleton.mp h] at hc
    exact hc
  | q :: r :: s, p, h, c, hc => by
    show c ∈ q ++ (sep ++ TL.joinL sep (r :: s))
    rcases List.mem_cons.mp h with rfl | h
    · exact List.mem_append_left _ hc
    · exact List.mem_append_right _ (List.mem_append_right _ (joinL_sub sep h c hc))
theorem prts_mem {sep l p : List Nat} (h : sep ≠ []) (hk : (sep.all (· < 256)) = true) (hp : p ∈ prts sep l) {c : Nat} (hc : c ∈ p) : c ∈ l := by
  have := joinL_sub sep hp c hc
  rwa [prts_join h hk] at this
theorem joinL_part (sep : List Nat) : ∀ {ps : List (List Nat)} {p : List Nat}, p ∈ ps → p.length ≤ (TL.joinL sep ps).length
  | [], p, h => by cases h
  | [q], p, h => by
    rw [List.mem_singleton.mp h]
    exact Nat.le_refl _
  | q :: r :: s, p, h => by
    show p.length ≤ (q ++ (sep ++ TL.joinL sep (r :: s))).length
    rw [List.length_append, List.length_append]
    rcases List.mem_cons.mp h with rfl | h
    · omega
    · have := joinL_part sep h
      omega
theorem prts_len {sep l p : List Nat} (h : sep ≠ []) (hk : (sep.all (· < 256)) = true) (hp : p ∈ prts sep l) : p.length ≤ l.length := by
  have := joinL_part sep hp
  rwa [prts_join h hk] at this
theorem spl_some (sep : List Nat) : ∀ (l : List Nat) (k : Nat) (acc : List Nat), TL.spl sep k acc l ≠ []
  | [], k, acc => by
    rw [TL.spl_nil]
    simp
  | c :: r, 0, acc => by
    show (if TL.pre sep (c :: r) = true then acc :: TL.spl sep (sep.length - 1) [] r else TL.spl sep 0 (acc ++ [c]) r) ≠ []
    split
    · simp
    · exact spl_some sep r 0 _
  | c :: r, k + 1, acc => by
    show TL.spl sep k acc r ≠ []
    exact spl_some sep r k acc
theorem prts_ne (sep l : List Nat) : prts sep l ≠ [] := spl_some sep l 0 []
theorem prts_pos (sep l : List Nat) : 0 < (prts sep l).length := List.length_pos_iff.mpr (prts_ne sep l)
theorem joinL_count (sep : List Nat) (h : 0 < sep.length) : ∀ ps : List (List Nat), ps.length ≤ (TL.joinL sep ps).length + 1
  | [] => Nat.zero_le _
  | [q] => by show 1 ≤ _; omega
  | q :: r :: s => by
    show (q :: r :: s).length ≤ (q ++ (sep ++ TL.joinL sep (r :: s))).length + 1
    have := joinL_count sep h (r :: s)
    rw [List.length_append, List.length_append, List.length_cons]
    omega
theorem prts_count {sep l : List Nat} (h : sep ≠ []) (hk : (sep.all (· < 256)) = true) : (prts sep l).length ≤ l.length + 1 := by
  have := joinL_count sep (List.length_pos_iff.mpr h) (prts sep l)
  rwa [prts_join h hk] at this
section
variable {K : PySem.W.Frag} {σ : L2.St} {H : Hp} {te ta tb : TE} {a : Addr} {d d1 d2 n : Nat} {D : Ends} {PA : List V → Prop} {P : V → Prop} {t u : TT} {tu tw tz : TS}
/-- xs[j] = a new tuple, drawn -/
theorem sw_setU {xs : List V} {l : Addr} {j : Nat} (hl : H l = some (.lst xs)) (nl : l ≠ a) (h : EvWU a d te σ H PA) (ho : ∀ H1, Ev ta σ H1 (.ref l)) (hi : ∀ H1, Ev tb σ H1 (.int (j : Int))) (hj : j < xs.length) (w : Well H a n) (hn : n + d ≤ 2 ^ 50)
    (k : ∀ p ys H1, H p = none → But a H H1 → Well H1 a (n + d) → H1 p = some (.tup ys) → PA ys → D.nx σ (upd H1 l (.lst (xs.set j (.ref p))))) : tAsg te (gSub ta tb rSetL) D σ H :=
  h n H (But.refl a H) w (by omega) _ fun p ys H1 hp b1 w1 g1 pv => ho H1 H1 (Ex.refl H1) _ fun H2 e2 => hi H2 H2 (Ex.refl H2) _ fun H3 e3 => by
    have e13 := e2.trans e3
    exact ⟨l, xs, (j : Int), j, rfl, rfl, e13 _ _ (b1 _ _ nl hl), ixN_nat (by omega), k p ys H3 hp (b1.trans (But.ex e13)) (w1.ex e13) (e13 _ _ g1) pv⟩
/-- if draw.. == c and test: .. -/
theorem sw_ifAnd {b : Bool} (h : EvW a d te σ H (fun v => ∃ b, v = .bl b)) (hb : ∀ H1, But a H H1 → EvT u σ H1 b) (w : Well H a n) (l : n + d ≤ 2 ^ 50) (k1 : b = true → ∀ H1, But a H H1 → Well H1 a (n + d) → tu D σ H1)
    (k2 : ∀ H1, But a H H1 → Well H1 a (n + d) → tw D σ H1) : tIfS (tAnd (tTest te) u) tu tw D σ H :=
  h n H (But.refl a H) w l _ fun v H2 b2 w2 ⟨c, e⟩ => ⟨c, e, by
    cases c with
    | true =>
      refine hb H2 b2 H2 (Ex.refl H2) _ fun H3 e3 => ?_
      cases b with
      | true => exact iteT (k1 rfl H3 (b2.trans (But.ex e3)) (w2.ex e3))
      | false => exact iteF (k2 H3 (b2.trans (But.ex e3)) (w2.ex e3))
    | false => exact iteF (k2 H2 b2 w2)⟩
end
end Bk
namespace Bk
open PySem PySem.Spec PyProof.Rows L2 Evl
/-! ### several except clauses, some of which keep the error by a name -/
def wKeptM (K : PySem.W.Frag) (Wout : WX) (D : Ends) : List (Value × Option Nat × TS) → WX
  | [] => Wout
  | (c, some i, ts) :: r => fun cls d σ H => ∃ b, PySem.W.exmOne K cls c = some b ∧ (b = true → ∀ a, H a = none → ts { nx := fun σ' H' => D.nx (σ'.set i none) H', rt := D.rt, bk := fun σ' H' => D.bk (σ'.set i none) H', ct := fun σ' H' => D.ct (σ'.set i none) H' } (σ.set i (some (.ref a))) (upd H a (ExK cls d a))) ∧
    (b = false → wKeptM K Wout D r cls d σ H)
  | (c, none, ts) :: r => fun cls d σ H => ∃ b, PySem.W.exmOne K cls c = some b ∧ (b = true → ts D σ H) ∧ (b = false → wKeptM K Wout D r cls d σ H)
inductive HdsK (X : Cx) : List ExceptHandler → List (Value × Option Nat × TS) → Prop
  | nil : HdsK X [] []
  | named {x n : Str} {c : Value} {i : Nat} {ts : TS} {b₀ : Stmt} {suite : List Stmt} {np pos' : Pos} {hds : List ExceptHandler} {l : List (Value × Option Nat × TS)} (hc : Names X x c) (hi : X.N[i]? = some n) (hln : X.env.kindOf n = some .local)
      (hsu : ∀ (a : Addr) (pn : List (Addr × Obj)), PSs (X.suite a pn) (b₀ :: suite) ts) (r : HdsK X hds l) :
      HdsK X (.ExceptHandler (some (.Name x np)) (some n) (b₀ :: suite) pos' :: hds) ((c, some i, ts) :: l)
  | bare {x : Str} {c : Value} {ts : TS} {b₀ : Stmt} {suite : List Stmt} {np pos' : Pos} {hds : List ExceptHandler} {l : List (Value × Option Nat × TS)} (hc : Names X x c)
      (hsu : ∀ (a : Addr) (pn : List (Addr × Obj)), PSs (X.suite a pn) (b₀ :: suite) ts) (r : HdsK X hds l) :
      HdsK X (.ExceptHandler (some (.Name x np)) none (b₀ :: suite) pos' :: hds) ((c, none, ts) :: l)
section
variable {X : Cx} {body : List Stmt} {h₀ : ExceptHandler} {hds : List ExceptHandler} {l : List (Value × Option Nat × TS)} {pos : Pos} {tb : WX → TS} {Wout : WX}
theorem ps_try_keptM (hs : X.stack = X.env :: X.outer) (hf : X.env.frame = some X.env.locals) (hex : X.ex = []) (hN : X.N.Nodup) (tk : Takes X Wout)
    (hb : ∀ (W : WX) (pn : List (Addr × Obj)) (xe : Value → Shared → Prop), Takes (X.tr pn xe) W → PassesOwn (model X.prog X.w) X.A X.env xe → PSs (X.tr pn xe) body (tb W))
    (hh : HdsK X (h₀ :: hds) l) : PS X (.Try body (h₀ :: hds) [] [] pos) (fun D σ H => tb (wKeptM X.K Wout D l) D σ H) := by
  refine ⟨fun pins s σ H D I h => ?_⟩
  have ok0 := I.ok
  have frm : X.A.frames = some (X.env :: X.outer) := by rw [ok0.frames, hs]
  refine wpAny_Try_except ?_
  have run := (hb (wKeptM X.K Wout D l) (X.pn ++ pins) (fun ev t1 => wpAny (model X.prog X.w) X.A (noteFrame ev X.env) (fun _ t2 => wpAny (model X.prog X.w) X.A (setFlight ev none) (fun _ t3 =>
    wpAny (model X.prog X.w) X.A (handleBy ev X.env (h₀ :: hds)) (SP X pins D) X.xe t3) X.xe t2) X.xe t1) (fun u t' air => ?_) PassesOwn.looking).run [] s σ H D (I.toTry _) h
  · refine wpAny_mono run (fun fl t1 hfl => ?_) (fun _ _ he => he)
    cases fl with
    | next =>
      obtain ⟨σ', H', J, q⟩ := hfl
      exact wpAny_execs_nil ⟨σ', H', J.ofTry ok0, q⟩
    | brk =>
      obtain ⟨σ', H', J, q⟩ := hfl
      exact ⟨σ', H', J.ofTry ok0, q⟩
    | cont =>
      obtain ⟨σ', H', J, q⟩ := hfl
      exact ⟨σ', H', J.ofTry ok0, q⟩
    | ret u =>
      obtain ⟨v, σ', H', J, r, q⟩ := hfl
      exact ⟨v, σ', H', J.ofTry ok0, r, q⟩
  · obtain ⟨a, B, sJ, pins', σ', H', cls, d, rfl, Jt, nb, up, sky, na, eos, bare, w⟩ := air
    have J : Inv X pins σ' H' sJ := Jt.ofTry ok0
    have skyE : Sky B (X.env :: X.outer) a (Zc cls d) X.env.locals t'.heap := by rw [← hs]; exact sky
    show wpAny (model X.prog X.w) X.A (noteFrame (.ref a) X.env) _ _ _
    refine Sky.land Zc.steady frm hf skyE fun g3 f3 u3 => ?_
    have J3 : Inv X pins σ' H' { t' with heap := g3 } := J.landed nb f3.1 (up.trans u3) eos bare
    obtain ⟨o3, v3, ho3, hz3, hd3⟩ := f3.there
    have notIn : ∀ {hh : Heap} {o : Obj} {vs : Array Value}, hh.FunFrames B (X.env :: X.outer) → hh.get? a = some o → o.data = .fields vs → a ∉ frs (X.env :: X.outer) := fun {hh o vs} ff e dd hm => by
      obtain ⟨_, o', e', nf⟩ := ff.mem hm
      rw [e] at e'
      cases e'
      exact nf _ dd
    have nfr := notIn f3.2.2.1 ho3 hd3
    have nL : a ≠ X.env.locals := fun z => nfr (List.mem_filterMap.mpr ⟨X.env, List.mem_cons_self, by rw [hf, z]⟩)
    have nJ : sJ.heap.get? a = none := by
      cases q : sJ.heap.get? a with
      | none => rfl
      | some o =>
        have r := nb a o q (by rw [show frs (X.tr (X.pn ++ pins) _).stack = frs (X.env :: X.outer) by rw [← hs]]; exact nfr)
        rw [f3.2.1] at r
        cases r
    have n0 : X.s_0.heap.get? a = none := by
      cases q : X.s_0.heap.get? a with
      | none => rfl
      | some o =>
        obtain ⟨o', r⟩ := J.base.there a o q (by rw [hex]; exact List.not_mem_nil)
        rw [nJ] at r
        cases r
    have nP : ∀ p ∈ X.pn ++ pins, p.1 ≠ a := fun p hp z => by
      have r := (J.pin p hp).1
      rw [z, nJ] at r
      cases r
    have lt : PySem.W.Looks (model X.prog X.w) g3 (typeOf (.ref a)) cls := fun A Q E s k q => wpAny_typeOf_ref (k _ _ ho3) (by rw [hz3.1]; exact q)
    have S3 := suite0 J3 a
    have asks : ∀ {x : Str} {c : Value} {np : Pos}, Names X x c → ∀ {Q : Value → Shared → Prop} {E : Value → Shared → Prop}, Q c { t' with heap := g3 } → wpAny (model X.prog X.w) (X.A.mark (some (.ref a))) (eval (.Name x np) X.env) Q E { t' with heap := g3 } := fun {x c np} hc {Q E} q => by
      obtain ⟨hg, hdbg, hm | ⟨hm, hv, hnn⟩⟩ := hc
      · exact ld_glob (X := X.suite a (X.pn ++ pins)) S3 hg hm q hdbg
      · exact ld_blt (X := X.suite a (X.pn ++ pins)) S3 hg hm hv q hnn hdbg
    have go : ∀ {hds' : List ExceptHandler} {l' : List (Value × Option Nat × TS)}, HdsK X hds' l' → wKeptM X.K Wout D l' cls d σ' H' →
        wpAny (model X.prog X.w) X.A (handleBy (.ref a) X.env hds') (SP X pins D) X.xe { t' with heap := g3 } := by
      intro hds' l' hk
      induction hk with
      | nil =>
        intro w
        refine wpAny_handleBy_nil ?_
        obtain ⟨y1, y2, y3, oe, vs, T, oT, ts', he, hz, hd, h1, hr⟩ := id f3
        unfold PySem.passOn
        refine wpAny_bind (wpAny_field he hd h1 ?_)
        rw [if_neg (show ¬ ((Value.ref T == Value.none) = true) from by simp)]
        have onward : wpAny (model X.prog X.w) X.A (setFlight (.ref a) X.env.frame) (fun _ s4 => wpAny (model X.prog X.w) X.A (throw (.ref a) : Sem Flow) (SP X pins D) X.xe s4) X.xe { t' with heap := g3 } := by
          rw [hf]
          refine HandSPX.setFlight_upZ f3 fun g4 hh4 u4 => wpAny_throw (tk _ _ ?_)
          exact ⟨a, B, sJ, pins, σ', H', cls, d, rfl, J, nb, (up.trans u3).trans u4, .inr (.inr (by rw [hs]; exact hh4)), na, eos, bare, w⟩
        first
          | exact wpAny_bind (wpAny_pure (wpAny_bind onward))
          | exact wpAny_bind onward
      | @named x n c i ts b₀ suite np pos' hds2 l2 hc hi hln hsu r ih =>
        intro w
        obtain ⟨b, hb1, hyes, hno⟩ := w
        have isLoc : Loc X.env.scope n := .inl hln
        refine wpAny_handleBy_cons (codeAny_handlers_test ?_) (by intro q; cases q)
        have lm := PySem.W.exm_one (M := model X.prog X.w) (J3.kIn) lt hb1
        refine asks hc (lm.here ?_)
        cases b with
        | true =>
          refine codeAny_handlers_suite_as ?_
          refine HandSPX.lands_againZ f3 fun g4 f4 u4 => ?_
          have J4 : Inv X pins σ' H' { t' with heap := g4 } := J.landed nb f4.1 ((up.trans u3).trans u4) eos bare
          obtain ⟨o4, v4, ho4, hz4, hd4⟩ := f4.there
          have S4 := suite0 (adopt J4 ho4 hz4 hd4 na n0 nL nP) a
          refine store_ok (X := X.suite a (X.pn ++ pins)) (v := .ref a) S4 hN hi isLoc rfl (fun s5 S5 => ?_) (.inr hln)
          refine wpAny_mono ((hsu a (X.pn ++ pins)).run [] s5 _ _ _ S5 (hyes rfl a na)) (fun fl s6 hfl => ?_) (fun _ _ z => False.elim z)
          have away : ∀ {σ6 : L2.St} {H6 : Hp} {Q : Shared → Prop}, Inv (X.suite a (X.pn ++ pins)) [] σ6 H6 s6 → (∀ s7, Inv X pins (σ6.set i none) H6 s7 → Q s7) →
              wpAny (model X.prog X.w) X.A (do bindName X.env n .none; unbindBehindTheSuite X.env n pos') (fun _ s7 => Q s7) X.xe s6 := fun {σ6 H6 Q} S6 hq => gone_ok (unsuite0 S6 ok0) hN hi hln hq
          cases fl with
          | next =>
            obtain ⟨σ6, H6, S6, q6⟩ := hfl
            exact away S6 fun s7 J7 => ⟨_, _, J7, q6⟩
          | brk =>
            obtain ⟨σ6, H6, S6, q6⟩ := hfl
            exact away S6 fun s7 J7 => ⟨_, _, J7, q6⟩
          | cont =>
            obtain ⟨σ6, H6, S6, q6⟩ := hfl
            exact away S6 fun s7 J7 => ⟨_, _, J7, q6⟩
          | ret u =>
            obtain ⟨v6, σ6, H6, S6, r6, q6⟩ := hfl
            exact away S6 fun s7 J7 => ⟨_, _, _, J7, r6, q6⟩
        | false =>
          show wpAny _ X.A (handleBy (.ref a) X.env hds2) _ _ _
          exact ih (hno rfl)
      | @bare x c ts b₀ suite np pos' hds2 l2 hc hsu r ih =>
        intro w
        obtain ⟨b, hb1, hyes, hno⟩ := w
        refine wpAny_handleBy_cons (codeAny_handlers_test ?_) (by intro q; cases q)
        have lm := PySem.W.exm_one (M := model X.prog X.w) (J3.kIn) lt hb1
        refine asks hc (lm.here ?_)
        cases b with
        | true =>
          refine codeAny_handlers_suite ?_
          refine HandSPX.lands_againZ f3 fun g4 f4 u4 => ?_
          have J4 : Inv X pins σ' H' { t' with heap := g4 } := J.landed nb f4.1 ((up.trans u3).trans u4) eos bare
          have S4 := suite0 J4 a
          refine wpAny_mono ((hsu a (X.pn ++ pins)).run [] _ _ H' _ S4 (hyes rfl)) (fun f s6 hsp => ?_) (fun _ _ z => False.elim z)
          cases f with
          | next =>
            obtain ⟨σ6, H6, S6, q6⟩ := hsp
            exact ⟨_, _, unsuite0 S6 ok0, q6⟩
          | brk =>
            obtain ⟨σ6, H6, S6, q6⟩ := hsp
            exact ⟨_, _, unsuite0 S6 ok0, q6⟩
          | cont =>
            obtain ⟨σ6, H6, S6, q6⟩ := hsp
            exact ⟨_, _, unsuite0 S6 ok0, q6⟩
          | ret u =>
            obtain ⟨v6, σ6, H6, S6, r6, q6⟩ := hsp
            exact ⟨_, _, _, unsuite0 S6 ok0, r6, q6⟩
        | false =>
          show wpAny _ X.A (handleBy (.ref a) X.env hds2) _ _ _
          exact ih (hno rfl)
    exact go hh w
end
end Bk
namespace Bk
open PySem PySem.Spec PyProof.Rows L2 Evl SX
/-! ### values without a text; new tuples of any values; lists of truths compared; parts of texts -/
def NotS (H : Hp) (x : V) : Prop := x = .non ∨ (∃ m, x = .int m) ∨ (∃ c, x = .bl c) ∨ (∃ a xs, x = .ref a ∧ H a = some (.lst xs)) ∨ (∃ a xs, x = .ref a ∧ H a = some (.tup xs)) ∨ (∃ a kvs, x = .ref a ∧ H a = some (.dK kvs))
theorem NotS.ex {H H' : Hp} {x : V} (h : NotS H x) (e : Ex H H') : NotS H' x := by
  rcases h with h | h | h | ⟨a, xs, h, g⟩ | ⟨a, xs, h, g⟩ | ⟨a, xs, h, g⟩
  · exact .inl h
  · exact .inr (.inl h)
  · exact .inr (.inr (.inl h))
  · exact .inr (.inr (.inr (.inl ⟨a, xs, h, e _ _ g⟩)))
  · exact .inr (.inr (.inr (.inr (.inl ⟨a, xs, h, e _ _ g⟩))))
  · exact .inr (.inr (.inr (.inr (.inr ⟨a, xs, h, e _ _ g⟩))))
theorem kb_int_str' : kitB "int" "str" = some false := by decide +kernel
theorem kb_none_str' : kitB "NoneType" "str" = some false := by decide +kernel
theorem kb_bool_str' : kitB "bool" "str" = some false := by decide +kernel
theorem kb_list_str' : kitB "list" "str" = some false := by decide +kernel
theorem kb_tuple_str' : kitB "tuple" "str" = some false := by decide +kernel
theorem kb_dict_str' : kitB "dict" "str" = some false := by decide +kernel
section
variable {K : PySem.W.Frag} {σ : L2.St} {H : Hp} {ta tb te tl : TE} {t : TA} {D : Ends} {tu tz : TS} {P : V → Hp → Prop} {PL : List V → Hp → Prop} {n : Nat}
theorem ev_notS {x : V} (h : Ev ta σ H x) (o : NotS H x) : Ev (tCB (rIsi K) (tCons ta (tCons (tC (.ty "str")) tNil))) σ H (.bl false) := by
  rcases o with rfl | ⟨m, rfl⟩ | ⟨c, rfl⟩ | ⟨a, xs, rfl, g⟩ | ⟨a, xs, rfl, g⟩ | ⟨a, kvs, rfl, g⟩
  · exact ev_isi h (fun _ _ => .base .non) kb_none_str'
  · exact ev_isi h (fun _ _ => .base (.int m)) kb_int_str'
  · exact ev_isi h (fun _ _ => .base (.bl c)) kb_bool_str'
  · exact ev_isi h (fun _ e => .base (.lst (e _ _ g))) kb_list_str'
  · exact ev_isi h (fun _ e => .base (.tup (e _ _ g))) kb_tuple_str'
  · exact ev_isi h (fun _ e => .base (.dK (e _ _ g))) kb_dict_str'
def EvUP (te : TE) (σ : L2.St) (H : Hp) (P : List V → Hp → Prop) : Prop := ∀ H1, Ex H H1 → ∀ Q : VK, (∀ p xs H2, H1 p = none → Ex H1 H2 → H2 p = some (.tup xs) → P xs H2 → Q (.ref p) H2) → te σ H1 Q
theorem eup_tup (mono : ∀ v H1 H2, Ex H1 H2 → P v H1 → P v H2) (h : EvAP t σ H (AllP P n)) (hn : n ≤ 100000) : EvUP (tTup t) σ H (AllP P n) := fun H1 e Q q =>
  h H1 e _ fun xs H2 e2 ⟨l, px⟩ => ⟨sz_of (by omega), fun p hp => q p xs _ (fresh_back e2 hp) (e2.trans (Ex.new hp)) upd_same ⟨l, fun v hv => mono _ _ _ (Ex.new hp) (px v hv)⟩⟩
theorem q_forUP {j : Nat} (h : EvUP tl σ H PL) (Pv : Addr → List V → Nat → L2.St → Hp → Prop) (h0 : ∀ p xs H1, H p = none → Ex H H1 → H1 p = some (.tup xs) → PL xs H1 → Pv p xs 0 σ H1)
    (hl : ∀ p xs i σ' H', i ≤ xs.length → Pv p xs i σ' H' → SqT K H' p xs)
    (hs : ∀ p xs i x σ' H', xs[i]? = some x → Pv p xs i σ' H' → tu { D with nx := Pv p xs (i + 1), ct := Pv p xs (i + 1), bk := tz D } (σ'.set j (some x)) H') (hd : ∀ p xs σ' H', Pv p xs xs.length σ' H' → tz D σ' H') : tSeq (tFor (iTup K tl) (gName j) tu) tz D σ H :=
  h H (Ex.refl H) _ fun p xs H1 hp e h1 px => ⟨p, rfl, ⟨xs, st_of h1⟩, for_tup (D := { D with nx := tz D }) (Pv p xs) (h0 p xs H1 hp e h1 px) (hl p xs) (fun i x σ' H' hx k => hs p xs i x σ' H' hx k) (hd p xs)⟩
theorem ev_cVL {sp : Sp} {E : XK} {x v : V} {xs : List V} (h1 : Ev ta σ H x) (h2 : EvL tb σ H xs) (hs : ∀ p H1, Ex H H1 → H1 p = some (.lst xs) → SpV sp [x, .ref p] H1 v) : Ev (tCall sp [] E (tCons ta (tCons tb tNil))) σ H v := fun H1 e Q q =>
  h1 H1 e _ fun H2 e2 => h2 H2 (e.trans e2) _ fun p H3 hp e3 g3 => hs p H3 ((e.trans e2).trans e3) g3 H3 (Ex.refl H3) Q (fun H4 e4 => q H4 ((e2.trans e3).trans e4)) E
theorem eu_slT {tl th : TO} {a : Addr} {xs : List V} {lo hi : Option Int} (h : Ev te σ H (.ref a)) (h1 : EvO tl σ H lo) (h2 : EvO th σ H hi) (hs : SqT K H a xs) (hw : ¬ (HT.sIx xs.length 0 lo = 0 ∧ HT.sIx xs.length xs.length hi = xs.length)) : EvU (tSl (rSlT K) te tl th) σ H (cutV xs lo hi) := fun H1 e _ q =>
  h H1 e _ fun H2 e2 => h1 H2 (e.trans e2) _ fun H3 e3 => h2 H3 ((e.trans e2).trans e3) _ fun H4 e4 =>
    ⟨a, xs, rfl, ex_t (((e.trans e2).trans e3).trans e4) hs, hw, fun p hp => q p _ (fresh_back ((e2.trans e3).trans e4) hp) (((e2.trans e3).trans e4).trans (Ex.new hp)) upd_same⟩
theorem el_repV {xs : List V} {n : Int} {p : Addr} (ha : Ev ta σ H (.ref p)) (g : H p = some (.lst xs)) (hb : ∀ H1, Ex H H1 → Ev tb σ H1 (.int n)) (h0 : 0 ≤ n) (hz : xs.length * n.toNat ≤ 100000) (hn : n ≤ 100000) : EvL (tOp rRep ta tb) σ H (List.replicate n.toNat xs).flatten := fun H1 e Q q =>
  ha H1 e _ fun H2 e2 => hb H2 (e.trans e2) H2 (Ex.refl H2) _ fun H3 e3 => ⟨p, n, xs, rfl, rfl, ((e.trans e2).trans e3) _ _ g, by omega, by omega, sz_of hz, fun l hl => q l _ (fresh_back (e2.trans e3) hl) ((e2.trans e3).trans (Ex.new hl)) upd_same⟩
theorem ev_joinL {ps : List (List Nat)} {sep : List Nat} (h : Ev ta σ H (.str (S sep))) (h' : EvL tb σ H (ps.map fun l => V.str (S l))) (hz : (ps.map (·.length)).sum + ps.length * sep.length ≤ 16777216) : Ev (tM1 (rJoin K) ta tb) σ H (.str (S (TL.joinL sep ps))) := by
  refine ev_is (ev_joinN (ys := ps.map S) h (el_is h' (by rw [List.map_map]; rfl)) ?_) (congrArg V.str (join_S sep ps))
  rw [List.map_map, List.length_map, S_len]
  have e : ps.map ((·.length) ∘ S) = ps.map (·.length) := List.map_congr_left fun l _ => S_len l
  rw [e]
  exact hz
/-! lists of truths -/
def dbs (bs : List Bool) : List PyData := bs.map .bool
theorem dpAll_bls (K : PySem.W.Frag) (H : Hp) : ∀ bs : List Bool, DpAll K H (bs.map .bl) (dbs bs)
  | [] => .nil
  | b :: bs => .cons (.bl b) (dpAll_bls K H bs)
theorem bls_ok : ∀ bs : List Bool, PyData.canLayAll0 (dbs bs) = true ∧ PyData.depthAll (dbs bs) = 0
  | [] => ⟨rfl, rfl⟩
  | b :: bs => by
    obtain ⟨x, y⟩ := bls_ok bs
    constructor
    · show PyData.canLayAll0 (.bool b :: dbs bs) = true
      rw [PyData.canLayAll0, PyData.canLay0, x]
      rfl
    · show PyData.depthAll (.bool b :: dbs bs) = 0
      rw [PyData.depthAll, PyData.depth, y]
      rfl
theorem bls_sh (bs : List Bool) : SeqAt.shaped (.list (dbs bs)) = true := by
  unfold SeqAt.shaped
  rw [PyData.canLay0, PyData.depth, (bls_ok bs).1, (bls_ok bs).2]
  rfl
theorem bls_eqv : ∀ bs : List Bool, PyData.eqvAll (dbs bs) (dbs bs) = true
  | [] => rfl
  | b :: bs => by
    show PyData.eqvAll (.bool b :: dbs bs) (.bool b :: dbs bs) = true
    rw [PyData.eqvAll, PyData.eqv, bls_eqv bs]
    simp
theorem ev_neBls {p : Addr} {bs : List Bool} (ha : Ev ta σ H (.ref p)) (g : SqL K H p (bs.map .bl)) (hb : EvL tb σ H (bs.map .bl)) : Ev (tOp (rNeD K) ta tb) σ H (.bl false) := fun H1 e Q k =>
  ha H1 e _ fun H2 e2 => hb H2 (e.trans e2) _ fun q H3 _ e3 g3 => ⟨.list (dbs bs), .list (dbs bs), .lst (ex_l ((e.trans e2).trans e3) g) (dpAll_bls K H3 bs), .lst (sq_of g3) (dpAll_bls K H3 bs), bls_sh bs, bls_sh bs, by
    rw [PyData.eqv, bls_eqv]
    exact k H3 (e2.trans e3)⟩
end
/-! ### a def called with nothing -/
section
variable {X : Cx} {CX : CXT} {k : Nat} {f : Addr} {fd : FuncData} {ps : List Str} {sp : Sp} {E : XK} {x : Str} {p pos : Pos}
theorem callG0 (F : FnG X.prog X.w X.K X.mg X.base CX k f fd ps sp) (hr : Rm k X.A) (hg : Gl X x) (hm : X.mg x = some (.ref f)) (hk : PySem.W.keepIn X.K (.ref f) = true) (hb : Binds X.K fd ps []) (hx : Passes CX X E)
    (hdb : (x == ("__debug__" : Str)) = false := by decide) : PE X (.Call (.Name x p) [] [] pos) (tCall sp [] E tNil) := by
  refine ⟨fun pins s σ H Q I h => wpAny_Call_Name_kw (ld_glob I hg hm ?_ hdb)⟩
  refine PySem.W.callWith_K0 (first := []) I.kIn hk ?_
  exact runG (us := []) (vs := []) F hr hb .nil hx I .nil h
end
/-! ### joined parts, split -/
theorem free_no43 : ∀ {p : List Nat}, 43 ∉ p → free [32, 43, 32] p = true
  | [], _ => rfl
  | c :: r, h => by
    have hr : 43 ∉ r := fun m => h (List.mem_cons_of_mem _ m)
    have ih := free_no43 hr
    have e : TL.pre [32, 43, 32] (c :: (r ++ [32, 43, 32])) = false := by
      show ((c :: (r ++ [32, 43, 32])).take 3 == [32, 43, 32]) = false
      refine beq_eq_false_iff_ne.mpr fun z => ?_
      cases r with
      | nil => simp at z
      | cons d r =>
        simp only [List.cons_append, List.take_succ_cons, List.cons.injEq] at z
        exact hr (by rw [z.2.1]; exact List.mem_cons_self ..)
    show (!(TL.pre [32, 43, 32] (c :: (r ++ [32, 43, 32]))) && free [32, 43, 32] r) = true
    rw [e, ih]
    rfl
theorem free_last {sep p : List Nat} (h : free sep p = true) : ∀ i, i < p.length → TL.pre sep (p.drop i) = false := fun i hi => by
  have a := free_at h [] i hi
  rw [List.append_nil] at a
  cases e : TL.pre sep (p.drop i) with
  | false => rfl
  | true =>
    have e1 : (p.drop i).take sep.length = sep := eq_of_beq e
    have hl : sep.length ≤ (p.drop i).length := by
      have := congrArg List.length e1
      rw [List.length_take] at this
      omega
    rw [List.drop_append_of_le_length (by omega), pre_mono hl, e] at a
    cases a
theorem prts_free {sep : List Nat} (hs : sep ≠ []) : ∀ {ps : List (List Nat)}, ps ≠ [] → (∀ p ∈ ps, free sep p = true) → prts sep (TL.joinL sep ps) = ps
  | [], h, _ => absurd rfl h
  | [p], _, hp => by
    show TL.spl sep 0 [] p = [p]
    rw [TL.spl_last (free_last (hp p (List.mem_singleton.mpr rfl))), List.nil_append]
  | p :: q :: r, _, hp => by
    show TL.spl sep 0 [] (p ++ (sep ++ TL.joinL sep (q :: r))) = p :: q :: r
    rw [spl_free _ hs (hp p (List.mem_cons_self ..))]
    exact congrArg (p :: ·) (prts_free hs (by simp) fun z hz => hp z (List.mem_cons_of_mem _ hz))
end Bk
namespace Bk
open PySem PySem.Spec PyProof.Rows L2 Evl SX
/-! ### texts sign by sign; the numbers' texts back -/
def rNotInS : R2 := fun x y H Q => ∃ (c : Nat) (z : Str), x = .str ⟨#[c]⟩ ∧ y = .str z ∧ Q (.bl (!decide (c ∈ z.cps.toList))) H
theorem op_notInS {X : Cx} : OpR X (compareOp .NotIn) rNotInS := op_notIn_sign
theorem given_filterN {α : Type} (xs : List α) (d : α) (p : α → Bool) (g : α → V) : given xs.length (fun j => p (xs.getD j d)) (fun j => g (xs.getD j d)) = (xs.filter p).map g := by
  have e : xs = (List.range xs.length).map fun j => xs.getD j d := by
    refine List.ext_getElem? fun i => ?_
    rw [List.getElem?_map]
    by_cases hi : i < xs.length
    · rw [List.getElem?_range hi, List.getElem?_eq_getElem hi]
      show _ = some (xs.getD i d)
      rw [List.getD_eq_getElem?_getD, List.getElem?_eq_getElem hi]
      rfl
    · rw [List.getElem?_eq_none (by omega), List.getElem?_eq_none (by rw [List.length_range]; omega)]
      rfl
  have e2 : xs.filter p = ((List.range xs.length).filter fun j => p (xs.getD j d)).map fun j => xs.getD j d := by
    conv => lhs; rw [e]
    rw [List.filter_map]
    rfl
  unfold given
  rw [e2, List.map_map]
  rfl
theorem S_sign (c : Nat) : (⟨#[c]⟩ : Str) = S [c] := rfl
theorem S_size (l : List Nat) : (S l).cps.size = l.length := S_len l
theorem S_get {l : List Nat} {i c : Nat} (h : (S l).cps[i]? = some c) : l[i]? = some c := by
  rw [← Array.getElem?_toList] at h
  exact h
theorem mem_S {c : Nat} {l : List Nat} : decide (c ∈ (S l).cps.toList) = decide (c ∈ l) := rfl
section
variable {K : PySem.W.Frag} {σ : L2.St} {H : Hp} {ta tb tl te t : TE} {tt : TT}
/-- [sign for sign in text if ..] -/
theorem el_lcS {j : Nat} {ws : List Nat} {l : List Nat} (f : Nat → Bool) (h : Ev tl σ H (.str (S l))) (hz : l.length ≤ 40000) (hw : ∀ x, wipe ((wipe σ ws).set j (some x)) ws = wipe σ ws)
    (ht : ∀ (c : Nat) H1, Ex H H1 → c ∈ l → EvT tt ((wipe σ ws).set j (some (.str (S [c])))) H1 (f c)) (he : ∀ (c : Nat) H1, Ex H H1 → c ∈ l → f c = true → Ev te ((wipe σ ws).set j (some (.str (S [c])))) H1 (.str (S [c]))) :
    EvL (tLc (iStr tl) (gName j) tt te ws) σ H (vs ((l.filter f).map fun c => [c])) := by
  have e0 : vs ((l.filter f).map fun c => [c]) = given l.length (fun i => f (l.getD i 0)) (fun i => V.str (S [l.getD i 0])) := by
    rw [given_filterN l 0 f fun c => V.str (S [c])]
    unfold vs
    rw [List.map_map]
    rfl
  rw [e0]
  intro H0 e Q q
  refine h H0 e _ fun H1 e1 => ⟨S l, rfl, fun Dl hD => ?_⟩
  refine lc_it (walk_str (z := S l)) (Cw H1 (fun i => f (l.getD i 0)) (fun i => V.str (S [l.getD i 0])) Dl) ⟨hD, Ex.new hD, upd_same⟩ (fun _ _ _ _ => trivial) (fun i x H2 H3 hi p y => ?_) fun H' p => q Dl H' (fresh_back e1 (by rw [S_size] at p; exact p.1)) (e1.trans (by rw [S_size] at p; exact p.2.1)) (by rw [S_size] at p; exact p.2.2)
  obtain ⟨rfl, c, hc, rfl⟩ := y
  have hg := S_get hc
  have hm := List.mem_of_getElem? hg
  have hd : l.getD i 0 = c := by rw [List.getD_eq_getElem?_getD, hg]; rfl
  rw [S_size] at hi
  refine ⟨hw _, cw_turn p (by omega) ?_ ?_⟩
  · show EvT tt _ H1 (f (l.getD i 0))
    rw [hd]
    exact ht c H1 (e.trans e1) hm
  · intro hf
    have hf' : f (l.getD i 0) = true := hf
    rw [hd] at hf'
    show Ev te _ H1 (V.str (S [l.getD i 0]))
    rw [hd]
    exact he c H1 (e.trans e1) hm hf'
theorem ev_neTT {as bs : List (List Nat)} (ha : strsOk as) (hb : strsOk bs) (h1 : EvL ta σ H (vs as)) (h2 : EvL tb σ H (vs bs)) : Ev (tOp (rNeD K) ta tb) σ H (.bl (!decide (as = bs))) := fun H1 e Q k =>
  h1 H1 e _ fun p H2 _ e2 g2 => h2 H2 (e.trans e2) _ fun q H3 _ e3 g3 => ⟨.list (ds as), .list (ds bs), .lst (sq_of (e3 _ _ g2)) (dpAll_strs K H3 as), .lst (sq_of g3) (dpAll_strs K H3 bs), shaped_strs ha, shaped_strs hb, by
    rw [PyData.eqv, eqvAll_strs]
    exact k H3 (e2.trans e3)⟩
theorem ev_notInS {c : Nat} {l : List Nat} (h1 : Ev ta σ H (.str (S [c]))) (h2 : Ev tb σ H (.str (S l))) : Ev (tOp rNotInS ta tb) σ H (.bl (!decide (c ∈ l))) := fun H1 e Q k =>
  h1 H1 e _ fun H2 e2 => h2 H2 (e.trans e2) _ fun H3 e3 => ⟨c, S l, rfl, rfl, k H3 (e2.trans e3)⟩
theorem rv_ixTx {l : List Nat} {i : Int} {c : Nat} (hl : l.length ≤ 16000000) (h : atI l i = some c) : RV rIxS (.str (S l)) (.int i) H (.str (S [c])) := fun H1 e Q k => ⟨S l, i, c, rfl, rfl, by rw [S_len]; show _ ≤ 2 ^ 24; omega, h, k H1 (Ex.refl H1)⟩
end
/-! the numbers' texts back -/
theorem natT_inv {l : List Nat} {n : Nat} (h : natT l = some n) : TL.numL n = l := by
  unfold natT at h
  split at h
  · rename_i c
    obtain ⟨h1, h2, h3⟩ := c
    injection h with h
    subst h
    have ad : NumText.AllDigits l := fun c hc => by
      have := List.all_eq_true.mp h1 c hc
      unfold dg at this
      simp only [Bool.and_eq_true, decide_eq_true_eq] at this
      exact this
    obtain ⟨c, r, rfl⟩ : ∃ c r, l = c :: r := by
      cases l with
      | nil => exact absurd rfl h2
      | cons c r => exact ⟨c, r, rfl⟩
    have := NumText.toDigits_digitsVal r.length (c :: r) rfl ad (by
      by_cases hr : r = []
      · exact .inl (by rw [hr]; rfl)
      · refine .inr ⟨c, r, rfl, ?_⟩
        have a := ad c (List.mem_cons_self ..)
        by_cases h48 : c = 48
        · have := h3 (by rw [h48]; rfl)
          injection this with _ x
          exact absurd x hr
        · omega)
    unfold TL.numL
    rw [this, List.map_map]
    conv => rhs; rw [← List.map_id (c :: r)]
    refine List.map_congr_left fun x hx => ?_
    have a := ad x hx
    show (Char.ofNat x).toNat = x
    have : x = 48 ∨ x = 49 ∨ x = 50 ∨ x = 51 ∨ x = 52 ∨ x = 53 ∨ x = 54 ∨ x = 55 ∨ x = 56 ∨ x = 57 := by omega
    rcases this with h | h | h | h | h | h | h | h | h | h <;> subst h <;> rfl
  · cases h
theorem wholeT_inv {l : List Nat} {n : Int} (h : wholeT l = some n) : numT n = l := by
  unfold wholeT at h
  split at h
  · rename_i c
    cases hn : natT (l.drop 1) with
    | none =>
      rw [hn] at h
      cases h
    | some m =>
      rw [hn] at h
      replace h : (if m = 0 then none else some (-(m : Int))) = some n := h
      split at h
      · cases h
      · rename_i m0
        injection h with h
        subst h
        have := natT_inv hn
        unfold numT
        rw [if_pos (by omega), show (-(m : Int)).natAbs = m by omega, this]
        conv => rhs; rw [← List.take_append_drop 1 l, c]
        rfl
  · cases hn : natT l with
    | none =>
      rw [hn] at h
      cases h
    | some m =>
      rw [hn] at h
      replace h : some (m : Int) = some n := h
      injection h with h
      subst h
      unfold numT
      rw [if_neg (by omega), show ((m : Int)).natAbs = m by omega]
      exact natT_inv hn

section
variable {K : PySem.W.Frag} {σ : L2.St} {H : Hp} {ta tb tc tl te : TE} {tt : TT} {xs : List V} {D : Ends} {tz : TS} {a : Addr} {n d1 d2 d3 : Nat}
/-- a comprehension over a new list -/
theorem el_lcNw {j : Nat} {ws : List Nat} (f : Nat → Bool) (v : Nat → V) (h : EvL tl σ H xs) (hz : xs.length ≤ 40000) (hw : ∀ x, wipe ((wipe σ ws).set j (some x)) ws = wipe σ ws)
    (ht : ∀ (i : Nat) (x : V) H1, Ex H H1 → xs[i]? = some x → EvT tt ((wipe σ ws).set j (some x)) H1 (f i)) (he : ∀ (i : Nat) (x : V) H1, Ex H H1 → xs[i]? = some x → f i = true → Ev te ((wipe σ ws).set j (some x)) H1 (v i)) :
    EvL (tLc (iList K tl) (gName j) tt te ws) σ H (given xs.length f v) := fun H0 e Q q => h H0 e _ fun a H1 ha e1 h1 => ⟨a, rfl, ⟨xs, sq_of h1⟩, fun Dl hD =>
  lc_list (xs := xs) (Cw H1 f v Dl) ⟨hD, Ex.new hD, upd_same⟩ (fun i H' _ p => sq_of (p.2.1 _ _ h1)) (fun i x H' hi p => ⟨hw x, cw_turn p (by have := (List.getElem?_eq_some_iff.mp hi).1; omega) (ht i x H1 (e.trans e1) hi) (fun hf => he i x H1 (e.trans e1) hi hf)⟩)
    (fun H' p => q Dl H' (fresh_back e1 p.1) (e1.trans p.2.1) p.2.2)⟩
theorem ev_inP {p : Addr} {x : V} (ha : Ev ta σ H x) (hb : Ev tb σ H (.ref p)) (g : SqL K H p xs) (fx : flatV x = true) (fs : xs.all flatV = true) : Ev (tOp (rIn K false) ta tb) σ H (.bl (inV x xs)) := fun H1 e Q k =>
  ha H1 e _ fun H2 e2 => hb H2 (e.trans e2) _ fun H3 e3 => ⟨p, xs, rfl, .inl (ex_l ((e.trans e2).trans e3) g), fx, fs, k H3 (e2.trans e3)⟩
theorem ev_indexN {l : Addr} {j : Nat} {y : V} (ha : Ev ta σ H (.ref l)) (h : SqL K H l xs) (fs : xs.all flatV = true) (hb : Ev tb σ H y) (fy : flatV y = true) (hj : ∃ z, xs[j]? = some z ∧ eqV z y = true) (hn : ∀ m z, m < j → xs[m]? = some z → eqV z y = false) : Ev (tBM K "list" (rIndex K) ta (tCons tb tNil)) σ H (.int (j : Nat)) := fun H1 e Q q =>
  ha H1 e _ fun H2 e2 => ⟨Or.inl ⟨rfl, _, ex_l (e.trans e2) h⟩, hb H2 (e.trans e2) _ fun H3 e3 => by
    obtain ⟨z, h1, h2⟩ := hj
    exact ⟨l, xs, y, j, z, rfl, rfl, ex_l ((e.trans e2).trans e3) h, fy, fs, h1, h2, hn, q H3 (e2.trans e3)⟩⟩
theorem ev_maxN {ns : List Int} {m : Int} (h : EvL ta σ H (vi ns)) (hm : m ∈ ns) (hx : ∀ y ∈ ns, y ≤ m) : Ev (tCB (rMax K) (tCons ta tNil)) σ H (.int m) := fun H1 e Q q =>
  h H1 e _ fun p H2 hp e2 g2 => ⟨p, ns, rfl, sq_of g2, List.length_pos_of_mem hm, fun k h1 h2 => by
    have := hx k h1
    have := h2 m hm
    have e0 : k = m := by omega
    rw [e0]
    exact q H2 e2⟩
theorem qw_par3VVL {i j l : Nat} {PA PB : V → Prop} {PC : List V → Prop} (h1 : EvW a d1 ta σ H PA) (h2 : EvW a d2 tb σ H PB) (h3 : EvWL a d3 tc σ H PC) (w : Well H a n) (hl : n + (d1 + d2 + d3) ≤ 2 ^ 50)
    (k : ∀ x y p zs H1, H p = none → But a H H1 → Well H1 a (n + (d1 + d2 + d3)) → PA x → PB y → H1 p = some (.lst zs) → PC zs →
      tz D (((σ.set i (some x)).set j (some y)).set l (some (.ref p))) H1) : tSeq (tPar3 i j l (tCons ta (tCons tb (tCons tc tNil)))) tz D σ H :=
  h1 n H (But.refl a H) w (by omega) _ fun x H2 b2 w2 pa => h2 (n + d1) H2 b2 w2 (by omega) _ fun y H3 b3 w3 pb => h3 (n + d1 + d2) H3 (b2.trans b3) w3 (by omega) _ fun p zs H4 hp b4 w4 g4 pc => by
    refine ⟨_, _, _, rfl, k x y p zs H4 (but_free (b2.trans b3) w3 hp) ((b2.trans b3).trans b4) ?_ pa pb g4 pc⟩
    rw [show n + (d1 + d2 + d3) = n + d1 + d2 + d3 by omega]
    exact w4
end
end Bk
namespace Bk
open PySem PySem.Spec PyProof.Rows L2 Evl SX
theorem _root_.L2.Room.units65 {k : Nat} {A : Around} (r : Room k A) : A.units + 65 < cLine := by have := r.un; omega
/-! ### a list or a text; None among data of any depth; a comprehension whose items have each a property -/
section
variable {X : Cx} {K : PySem.W.Frag}
def rLenB (K : PySem.W.Frag) : List V → Hp → VK → Prop := fun xs H Q => rLenS K xs H Q ∨ (∃ z, xs = [V.str z] ∧ z.length ≤ sizeLine ∧ Q (.int z.length) H)
theorem call_lenB (h : X.K = K) : CallR X (.builtin "len") (rLenB K) := (call_lenK h).or call_len_str
def rIxB (K : PySem.W.Frag) : R2 := fun x y H Q => rIxL K x y H Q ∨ rIxS x y H Q
theorem ix_bothK (h : X.K = K) : IxR X (rIxB K) := (ix_listK h).or ix_str
theorem op_inDK (h : X.K = K) (hu : X.A.units + 65 < cLine) : OpR X (compareOp .In) (rInD K) := by
  subst h
  exact op_inD hu
theorem mt_indexDK (h : X.K = K) (hu : X.A.units + 65 < cLine) : MtR X "list.index" (rIndexD K) := by
  subst h
  exact mt_indexD hu
end
section
variable {K : PySem.W.Frag} {σ : L2.St} {H : Hp} {ta tb tc tl te : TE} {tt : TT} {xs : List V} {a : Addr} {d : Nat}
theorem ev_lenBL {p : Addr} (ha : Ev ta σ H (.ref p)) (h : SqL K H p xs) : Ev (tCB (rLenB K) (tCons ta tNil)) σ H (.int (xs.length : Int)) := fun H1 e Q q =>
  ha H1 e _ fun H2 e2 => .inl ⟨p, xs, rfl, .inl (ex_l (e.trans e2) h), q H2 e2⟩
theorem ev_lenBS {l : List Nat} (ha : Ev ta σ H (.str (S l))) (hl : l.length ≤ 16000000) : Ev (tCB (rLenB K) (tCons ta tNil)) σ H (.int (l.length : Int)) := fun H1 e Q q =>
  ha H1 e _ fun H2 e2 => .inr ⟨S l, rfl, by rw [S_len]; show _ ≤ 2 ^ 24; omega, by rw [S_len]; exact q H2 e2⟩
/-- [f(x) for x in a new list], each item with its property -/
theorem elp_lcI {P : Nat → V → Hp → Prop} {j : Nat} {ws : List Nat} (mono : ∀ i v H1 H2, Ex H1 H2 → P i v H1 → P i v H2) (keep : ∀ i v H1 D ys zs, H1 D = some (.lst ys) → P i v H1 → P i v (upd H1 D (.lst zs)))
    (h : EvL tl σ H xs) (hz : xs.length ≤ 40000) (hw : ∀ x, wipe ((wipe σ ws).set j (some x)) ws = wipe σ ws) (he : ∀ (i : Nat) (x : V) H1, Ex H H1 → xs[i]? = some x → EvP te ((wipe σ ws).set j (some x)) H1 (P i)) :
    EvLP (tLc (iList K tl) (gName j) tYes te ws) σ H (fun ys H2 => ys.length = xs.length ∧ ∀ (i : Nat) (v : V), ys[i]? = some v → P i v H2) := fun H0 e Q q =>
  h H0 e _ fun a H1 ha e1 hx => ⟨a, rfl, ⟨xs, sq_of hx⟩, fun Dl hD =>
    lc_list (xs := xs) (fun i H' => Ex H1 H' ∧ ∃ acc : List V, H' Dl = some (.lst acc) ∧ acc.length = i ∧ ∀ (k : Nat) (v : V), acc[k]? = some v → P k v H') ⟨Ex.new hD, [], upd_same, rfl, fun _ _ h => by cases h⟩ (fun i H' _ p => sq_of (p.1 _ _ hx)) (fun i x H' hi p => ⟨hw x, by
      obtain ⟨p1, acc, g, la, pa⟩ := p
      have hi' := (List.getElem?_eq_some_iff.mp hi).1
      refine et_yes (σ := (wipe σ ws).set j (some x)) (H := H') H' (Ex.refl H') _ fun H3 e3 => iteT ?_
      refine he i x H3 (((e.trans e1).trans p1).trans e3) hi H3 (Ex.refl H3) _ fun v H4 e4 pv => ?_
      have e34 := e3.trans e4
      refine ⟨acc, e34 _ _ g, sz_lt (by omega), (p1.trans e34).mut hD, acc ++ [v], upd_same, by rw [List.length_append, la]; rfl, fun k u hk => keep _ _ _ _ _ _ (e34 _ _ g) ?_⟩
      by_cases c : k < acc.length
      · rw [List.getElem?_append_left c] at hk
        exact mono _ _ _ _ e34 (pa k u hk)
      · rw [List.getElem?_append_right (by omega)] at hk
        have k0 : k - acc.length = 0 := by
          have := (List.getElem?_eq_some_iff.mp hk).1
          have e1 : [v].length = 1 := rfl
          omega
        rw [k0] at hk
        cases hk
        have ki : k = i := by omega
        rw [ki]
        exact pv⟩)
    (fun H' ⟨p1, acc, g, la, pa⟩ => q Dl acc H' (fresh_back e1 hD) (e1.trans p1) g ⟨by omega, pa⟩)⟩
end

/-! None among terms -/
section
variable {K : PySem.W.Frag} {σ : L2.St} {H : Hp} {ta tb tl te : TE}
theorem ev_inD {d : PyData} {ds : List PyData} {x : V} (ha : Ev ta σ H x) (hx : ∀ H1, Dp K H1 x d) (hb : EvP tb σ H fun v H1 => Dp K H1 v (.list ds)) (sd : SeqAt.shaped d = true) (ss : SeqAt.shaped (.list ds) = true) : Ev (tOp (rInD K) ta tb) σ H (.bl (ds.any fun z => PyData.eqv z d)) := fun H1 e Q k =>
  ha H1 e _ fun H2 e2 => hb H2 (e.trans e2) _ fun v H3 e3 hv => ⟨d, ds, hx H3, hv, sd, ss, k H3 (e2.trans e3)⟩
theorem ev_indexD {l : Addr} {y : V} {xs : List V} {d z : PyData} {ds : List PyData} {j : Nat} (ha : Ev ta σ H (.ref l)) (g : SqL K H l xs) (hl : DpAll K H xs ds) (hb : Ev tb σ H y) (hy : ∀ H1, Dp K H1 y d) (ss : SeqAt.shaped (.list ds) = true) (sd : SeqAt.shaped d = true) (hj : ds[j]? = some z) (hz : PyData.eqv z d = true) (hn : ∀ (m : Nat) (z' : PyData), m < j → ds[m]? = some z' → PyData.eqv z' d = false) : Ev (tBM K "list" (rIndexD K) ta (tCons tb tNil)) σ H (.int (j : Nat)) := fun H1 e Q q =>
  ha H1 e _ fun H2 e2 => ⟨Or.inl ⟨rfl, _, ex_l (e.trans e2) g⟩, hb H2 (e.trans e2) _ fun H3 e3 => ⟨l, y, d, ds, j, z, rfl, rfl, .lst (ex_l ((e.trans e2).trans e3) g) (DpAll.ex ((e.trans e2).trans e3) ds xs hl), hy H3, ss, sd, hj, hz, hn, q H3 (e2.trans e3)⟩⟩
end
end Bk
namespace Bk
open PySem PySem.Spec PyProof.Rows L2 Evl
/-! ### sorted(e, key=len), e a list of lists -/
section
variable {X : Cx} {pins : List (Addr × Obj)} {σ : L2.St} {H : Hp} {s : Shared}
theorem inv_same (I : Inv X pins σ H s) : ∃ m, s.heap.Ns X.env.locals m ∧ ∀ (h' : Heap) (tk : Nat), h'.Ns X.env.locals m → (∀ b u, b ≠ X.env.locals → s.heap.get? b = some u → h'.get? b = some u) → Inv X pins σ H { s with heap := h', toks := tk } := by
  obtain ⟨m, hn, hl⟩ := I.loc
  refine ⟨m, hn, fun h' tk hn' k => ?_⟩
  have cne := I.cne
  have lt : ∀ {b : Addr} {o : Obj}, X.s_0.heap.get? b = some o → b ≠ X.env.locals := fun e => Nat.ne_of_lt (Nat.lt_of_lt_of_le (Heap.lt_size e) I.ok.above)
  refine ⟨I.ok, I.os, I.bare, ⟨fun b o e n hb hx => k _ _ (lt e) (I.base.keep b o e n hb hx), fun b o e n hb hx => ?_, I.base.free, fun b o e hx => ?_, I.base.tups, I.base.frzs, I.base.tbls⟩, ⟨m, hn', fun j y v' e1 e2 e3 => ?_⟩, fun y c e => ?_, I.free, I.freeC, fun p hp => ?_, fun b ob e => ?_, I.len⟩
  · obtain ⟨sl, e1⟩ := I.base.slot b o e n hb hx
    exact ⟨sl, k _ _ (lt e) e1⟩
  · obtain ⟨o', e1⟩ := I.base.there b o e hx
    exact ⟨o', k _ _ (lt e) e1⟩
  · obtain ⟨u', r', q⟩ := hl j y v' e1 e2 e3
    refine ⟨u', r', ?_⟩
    rcases q with ⟨kk, e⟩ | ⟨kk, c, e, z⟩
    · exact .inl ⟨kk, e⟩
    · obtain ⟨oc, hoc, hd⟩ := z
      exact .inr ⟨kk, c, e, oc, k _ _ (cne y c e) hoc, hd⟩
  · obtain ⟨w', oc, hoc, hd⟩ := I.cell y c e
    exact ⟨w', oc, k _ _ (cne y c e) hoc, hd⟩
  · obtain ⟨e, n, ne, nf, d⟩ := I.pin p hp
    exact ⟨k _ _ ne e, n, ne, nf, d⟩
  · refine (I.hok b ob e).stay (fun c w' hc q => k c _ ?_ q) (fun _ q => q) fun _ _ q => q
    rintro rfl
    have hfree := I.free
    rcases hc with rfl | hc
    · rw [hfree] at e
      cases e
    · rw [hfree] at hc
      cases hc
def newsOf (h : Heap) (L : Addr) : List (Addr × Obj) := (List.range h.objs.size).filterMap fun b => if b = L then none else (h.get? b).map fun o => (b, o)
theorem mem_newsOf {h : Heap} {L b : Addr} {o : Obj} : (b, o) ∈ newsOf h L ↔ h.get? b = some o ∧ b ≠ L := by
  unfold newsOf
  rw [List.mem_filterMap]
  constructor
  · rintro ⟨c, _, e⟩
    by_cases hc : c = L
    · rw [if_pos hc] at e
      cases e
    · rw [if_neg hc] at e
      cases g : h.get? c with
      | none =>
        rw [g] at e
        cases e
      | some u =>
        rw [g] at e
        cases e
        exact ⟨g, hc⟩
  · rintro ⟨e, ne⟩
    refine ⟨b, List.mem_range.mpr (Heap.lt_size e), ?_⟩
    rw [if_neg ne, e]
    rfl
theorem empty_get (a : Addr) : ({} : Heap).get? a = none := by
  show (#[] : Array Obj)[a]? = none
  simp
theorem obj_there {P : Program} {w : World} {h : Heap} {a : Addr} {o : HO} (x : ObjOk P w H h a o) : ∃ u, h.get? a = some u := by
  cases o with
  | lst xs => obtain ⟨_, _, _, _, e⟩ := x; exact ⟨_, e⟩
  | tup xs => obtain ⟨_, _, _, ob, e, _⟩ := x; exact ⟨_, e⟩
  | dK kvs => obtain ⟨_, _, _, _, o, _, _, e, _⟩ := x; exact ⟨_, e⟩
  | dT kvs => obtain ⟨_, _, _, _, o, _, _, e, _⟩ := x; exact ⟨_, e⟩
  | set S n => obtain ⟨o, _, _, _, e, _⟩ := x; exact ⟨_, e⟩
  | ins C dx fs => obtain ⟨_, _, _, e, _⟩ := x; exact ⟨_, e⟩
  | own y => obtain ⟨_, e⟩ := x; exact ⟨_, e⟩
  | xd fs => obtain ⟨_, ⟨_, _, _, e, _⟩, _⟩ := x; exact ⟨_, e⟩
  | rng lo hi => obtain ⟨_, _, _, e⟩ := x; exact ⟨_, e⟩
  | frz ob u => obtain ⟨e, _⟩ := x; exact ⟨_, e⟩
  | tbl ps => exact ⟨_, show h.get? a = some _ from x⟩
  | met f y => exact ⟨_, show h.get? a = some _ from x⟩
  | ext φ => obtain ⟨_, ⟨_, e⟩, _⟩ := x; exact ⟨_, e⟩
/-- a list that nobody tracks is taken up -/
theorem adoptL {a : Addr} {xs : List V} {its : List Value} {n : Nat} (I : Inv X pins σ H s) (ha : s.heap.get? a = some (seqObj "list" its.toArray n)) (hz : xs.length ≤ sizeLine) (r : Vals xs its) (na : H a = none) (n0 : X.s_0.heap.get? a = none) (nL : a ≠ X.env.locals)
    (nP : ∀ p ∈ X.pn ++ pins, p.1 ≠ a) : Inv X pins σ (upd H a (.lst xs)) s := by
  have ne : ∀ {b : Addr} {o : HO}, H b = some o → b ≠ a := fun q => ne_of_none q na
  refine ⟨I.ok, I.os, I.bare, ⟨I.base.keep, I.base.slot, fun b o q n x => ?_, I.base.there, fun b xs q => ?_, fun b o u q => ?_, fun b ps q => ?_⟩, I.loc, I.cell, ?_, fun x c h => ?_, fun p hp => ?_, fun b o q => ?_, I.len⟩
  · rw [upd_ne fun z => by rw [z, n0] at q; cases q]
    exact I.base.free b o q n x
  · have r := I.base.tups b xs q
    rw [upd_ne (ne r)]
    exact r
  · have r := I.base.frzs b o u q
    rw [upd_ne (ne r)]
    exact r
  · obtain ⟨more, r⟩ := I.base.tbls b ps q
    exact ⟨more, by rw [upd_ne (ne r)]; exact r⟩
  · rw [upd_ne nL.symm]
    exact I.free
  · obtain ⟨v, o, ho, hv⟩ := I.cell x c h
    rw [upd_ne fun z => by
      rw [z, ha] at ho
      cases ho
      cases hv]
    exact I.freeC x c h
  · obtain ⟨p1, p2, p3⟩ := I.pin p hp
    exact ⟨p1, by rw [upd_ne (nP p hp)]; exact p2, p3⟩
  · by_cases c : b = a
    · subst c
      rw [upd_same] at q
      cases q
      exact ⟨hz, its, n, r, ha⟩
    · rw [upd_ne c] at q
      exact (I.hok b o q).stay (fun _ _ _ r => r) (fun e r => by rw [upd_ne (ne r)]; exact r) fun e xs r => by rw [upd_ne (ne r)]; exact r
theorem vals_refs : ∀ {as : List Addr} {us : List Value}, Vals (as.map V.ref) us → us = as.map Value.ref
  | [], _, r => by cases r; rfl
  | a :: as, _, r => by
    cases r with
    | cons x y =>
      obtain rfl : _ = Value.ref a := x
      rw [List.map_cons, vals_refs y]
theorem refs_vals : ∀ {as : List Addr}, Vals (as.map V.ref) (as.map Value.ref)
  | [] => .nil
  | a :: as => .cons rfl refs_vals
def adOf : Value → Addr
  | .ref a => a
  | _ => 0
end
def tSortLen (K : PySem.W.Frag) (te : TE) : TE := fun σ H Q => te σ H fun x H1 => ∃ (a : Addr) (as : List Addr) (ns : List Nat), x = .ref a ∧ SqL K H1 a (as.map V.ref) ∧ ns.length = as.length ∧
  (∀ (i : Nat) (b : Addr) (n : Nat), as[i]? = some b → ns[i]? = some n → ∃ xs, SqL K H1 b xs ∧ xs.length = n) ∧
  ∀ (ps : List (Int × Addr)) p, ps.Perm ((ns.map Int.ofNat).zip as) → ps.Pairwise (fun p q => p.1 ≤ q.1) → H1 p = none → Q (.ref p) (upd H1 p (.lst (ps.map fun q => V.ref q.2)))
section
variable {X : Cx} {K : PySem.W.Frag} {e : Expr} {te : TE} {p p2 kp pos : Pos}
theorem pe_sortLen (hX : X.K = K) (hex : X.ex = []) (hg : Gl X "sorted") (hm : X.mg "sorted" = none) (hg2 : Gl X "len") (hm2 : X.mg "len" = none) (he : PE X e te)
    (hst : starEach [e] X.env = (false, eval e X.env) :: starEach [] X.env := by rfl) (hbk : backTo pos (starEach [e] X.env) = (false, eval e X.env) :: backTo pos (starEach [] X.env) := by rfl) (hpl : (backTo pos (starEach [e] X.env)).any (·.1) = false := by rfl) :
    PE X (.Call (.Name "sorted" p) [e] [⟨some "key", .Name "len" p2, kp⟩] pos) (tSortLen K te) := by
  subst hX
  refine ⟨fun pins s σ H Q I h => ?_⟩
  refine wpAny_Call_Name_kw (ld_blt I hg hm (u := .builtin "sorted") rfl ?_ (by decide) (by decide))
  have ha := (pa_cons he pa_nil hst).run pos pins s σ H (fun vs H1 => match vs with
    | [x] => ∃ (a : Addr) (as : List Addr) (ns : List Nat), x = .ref a ∧ SqL X.K H1 a (as.map V.ref) ∧ ns.length = as.length ∧
    (∀ (i : Nat) (b : Addr) (n : Nat), as[i]? = some b → ns[i]? = some n → ∃ xs, SqL X.K H1 b xs ∧ xs.length = n) ∧
    ∀ (ps : List (Int × Addr)) p, ps.Perm ((ns.map Int.ofNat).zip as) → ps.Pairwise (fun p q => p.1 ≤ q.1) → H1 p = none → Q (.ref p) (upd H1 p (.lst (ps.map fun q => V.ref q.2)))
    | _ => False) I h
  refine PyProof.Rows.callWith_kw (thn ha fun us s1 ⟨vs, H1, I1, r1, q0⟩ => ?_) hbk hpl rfl rfl
  obtain ⟨x, rfl, a, as, ns, ex, hs, hl, hb, q⟩ : ∃ x, vs = [x] ∧ ∃ (a : Addr) (as : List Addr) (ns : List Nat), x = .ref a ∧ SqL X.K H1 a (as.map V.ref) ∧ ns.length = as.length ∧ (∀ (i : Nat) (b : Addr) (n : Nat), as[i]? = some b → ns[i]? = some n → ∃ xs, SqL X.K H1 b xs ∧ xs.length = n) ∧ ∀ (ps : List (Int × Addr)) p, ps.Perm ((ns.map Int.ofNat).zip as) → ps.Pairwise (fun p q => p.1 ≤ q.1) → H1 p = none → Q (.ref p) (upd H1 p (.lst (ps.map fun q => V.ref q.2))) := by
    match vs, q0 with
    | [x], q0 => exact ⟨x, rfl, q0⟩
  subst ex
  obtain rfl := Vals.ref1 r1
  show wpAny _ _ (evalAll [do let v ← eval (.Name "len" p2) X.env; standAt pos; pure v]) _ _ _
  refine wpAny_evalAll_cons (wpAny_bind (ld_blt I1 hg2 hm2 (u := .builtin "len") rfl (wpAny_bind (wpAny_standAt (wpAny_pure ?_))) (by decide) (by decide)))
  refine wpAny_evalAll_nil ?_
  show wpAny _ _ (call (.builtin "sorted") [.ref a] [(Str.ofString "key", .builtin "len")]) _ _ _
  obtain ⟨its, rv, pl, hz⟩ := I1.list hs
  obtain ⟨m, hn, keep⟩ := inv_same I1
  have hlen := rv.length
  rw [List.length_map] at hlen hz
  have F0 : Fr {} X.env.locals s1.heap m := ⟨hn, fun b o e => (by rw [empty_get] at e; cases e), Nat.zero_le _⟩
  have N0 : News {} X.env.locals s1.heap (newsOf s1.heap X.env.locals) := fun q hq => by
    obtain ⟨b, o⟩ := q
    obtain ⟨h1, h2⟩ := mem_newsOf.mp hq
    exact ⟨h1, h2, empty_get _⟩
  have item : ∀ (i : Nat) (v : Value), its[i]? = some v → ∃ b, as[i]? = some b ∧ v = .ref b := fun i v hv => by
    have hi := (List.getElem?_eq_some_iff.mp hv).1
    have ga : as[i]? = some (as[i]'(by omega)) := List.getElem?_eq_getElem _
    obtain ⟨u, hu, ru⟩ := rv.get (i := i) (x := .ref (as[i]'(by omega))) (by rw [List.getElem?_map, ga]; rfl)
    rw [hv] at hu
    cases hu
    exact ⟨_, ga, ru⟩
  refine ksk_sortedSt (kz := ns.map Int.ofNat) (b := false) F0 N0 pl.isList (by rw [List.length_map]; omega) (by omega) (ksk_s1 _ _) (fun _ => ksk_l1 _ _) (fun x => ksk_t4 _ _) (fun i v k hv hk h tk own F' N' => ?_) fun D h' tk out c F' N' l1 ko => ?_
  · obtain ⟨b, gb, rfl⟩ := item i v hv
    rw [List.getElem?_map] at hk
    cases gn : ns[i]? with
    | none =>
      rw [gn] at hk
      cases hk
    | some n =>
      rw [gn] at hk
      cases hk
      obtain ⟨xs, hxs, lx⟩ := hb i b n gb gn
      obtain ⟨jts, rj, ⟨o, nn, g, c1, c2, c3⟩, hzj⟩ := I1.list hxs
      have nb : b ≠ X.env.locals := by
        rcases hxs with hh | ⟨ob, _, _, hk, _⟩
        · rintro rfl
          rcases hh with hh | ⟨_, hh⟩
          all_goals (rw [I1.free] at hh; cases hh)
        · exact Nat.ne_of_lt (Nat.lt_of_lt_of_le (Heap.lt_size (I1.ok.bs _ _ (I1.ok.mod.kin _ _ hk)).1) I1.ok.above)
      have g' : h.get? b = some o := (N' (b, o) (List.mem_append_left _ (mem_newsOf.mpr ⟨g, nb⟩))).1
      have il : Heap.IsList h b jts.toArray := ⟨o, g', c1, nn, c3⟩
      have hn63 := line63
      have lj := rj.length
      refine Calls.call_len_list (s := { s1 with heap := h, toks := tk }) il (by simp only [List.size_toArray]; omega) ?_
      refine ⟨h, _, tk + 1, rfl, ?_, F', N'⟩
      show Value.int ((jts.toArray.size : Nat) : Int) (tk + 1) = _
      rw [List.size_toArray, ← lj, lx]
      rfl
  · obtain ⟨ps, hp, ho, hw, _⟩ := ko
    have ei := vals_refs rv
    subst ei
    have nD := N' (D, seqObj "list" out c) (List.mem_cons_self ..)
    have I2 := keep h' tk F'.ns fun b u ne e => (N' (b, u) (List.mem_cons_of_mem _ (mem_newsOf.mpr ⟨e, ne⟩))).1
    have old : ∀ {b : Addr} {o : Obj}, s1.heap.get? b = some o → b ≠ D := fun {b o} e z => by
      by_cases hb : b = X.env.locals
      · exact nD.2.1 (z.symm.trans hb)
      · have := l1 _ (mem_newsOf.mpr ⟨e, hb⟩)
        rw [z] at this
        exact absurd this (Nat.lt_irrefl _)
    have na : H1 D = none := by
      cases g : H1 D with
      | none => rfl
      | some o =>
        obtain ⟨u, hu⟩ := obj_there (I1.hok D o g)
        exact absurd rfl (old hu)
    have n0 : X.s_0.heap.get? D = none := by
      cases g : X.s_0.heap.get? D with
      | none => rfl
      | some o =>
        obtain ⟨u, hu⟩ := I1.base.there D o g (by rw [hex]; exact fun z => nomatch z)
        exact absurd rfl (old hu)
    have snd : ∀ q ∈ ps, ∃ b, q.2 = .ref b := fun q hq => by
      have := hp.mem_iff.mp hq
      have := (List.of_mem_zip this).2
      obtain ⟨b, _, e⟩ := List.mem_map.mp this
      exact ⟨b, e.symm⟩
    have eo : out = ((ps.map fun q => (q.1, adOf q.2)).map fun q => Value.ref q.2).toArray := by
      rw [← Array.toArray_toList (xs := out), ho, List.map_map]
      congr 1
      refine List.map_congr_left fun q hq => ?_
      obtain ⟨b, e⟩ := snd q hq
      show q.2 = Value.ref (adOf q.2)
      rw [e]
      rfl
    have pz : (ps.map fun q => (q.1, adOf q.2)).Perm ((ns.map Int.ofNat).zip as) := by
      refine (hp.map _).trans (List.Perm.of_eq ?_)
      rw [List.zip_map_right, List.map_map]
      exact List.map_id' _
    have lp : ps.length = as.length := by
      have := hp.length_eq
      rw [List.length_zip, List.length_map, List.length_map] at this
      omega
    have I3 := adoptL (xs := (ps.map fun q => (q.1, adOf q.2)).map fun q => V.ref q.2) (its := (ps.map fun q => (q.1, adOf q.2)).map fun q => Value.ref q.2) I2 (by rw [← eo]; exact nD.1) (by rw [List.length_map, List.length_map]; omega) (by
      have := refs_vals (as := (ps.map fun q => (q.1, adOf q.2)).map fun q => q.2)
      rw [List.map_map, List.map_map (g := Value.ref)] at this
      exact this) na n0 nD.2.1 (fun p hp z => by
      obtain ⟨e, _⟩ := I1.pin p hp
      exact old e z)
    exact ⟨.ref D, _, I3, rfl, q _ D pz (by
      rw [List.pairwise_map]
      exact hw) na⟩
end
end Bk
namespace Bk
open PySem PySem.Spec PyProof.Rows L2 Evl
/-! ### list(d.items()) -/
section
variable {X : Cx} {pins : List (Addr × Obj)} {σ : L2.St} {H : Hp} {s : Shared}
/-- an object that nobody tracks is taken up -/
theorem adoptX {a : Addr} {u : HO} {o0 : Obj} (I : Inv X pins σ H s) (ha : s.heap.get? a = some o0) (hc : ∀ v, o0.data ≠ .cell v) (ok : ObjOk X.prog X.w (upd H a u) s.heap a u) (na : H a = none) (n0 : X.s_0.heap.get? a = none) (nL : a ≠ X.env.locals)
    (nP : ∀ p ∈ X.pn ++ pins, p.1 ≠ a) : Inv X pins σ (upd H a u) s := by
  have ne : ∀ {b : Addr} {o : HO}, H b = some o → b ≠ a := fun q => ne_of_none q na
  refine ⟨I.ok, I.os, I.bare, ⟨I.base.keep, I.base.slot, fun b o q n x => ?_, I.base.there, fun b xs q => ?_, fun b o u q => ?_, fun b ps q => ?_⟩, I.loc, I.cell, ?_, fun x c h => ?_, fun p hp => ?_, fun b o q => ?_, I.len⟩
  · rw [upd_ne fun z => by rw [z, n0] at q; cases q]
    exact I.base.free b o q n x
  · have r := I.base.tups b xs q
    rw [upd_ne (ne r)]
    exact r
  · have r := I.base.frzs b o u q
    rw [upd_ne (ne r)]
    exact r
  · obtain ⟨more, r⟩ := I.base.tbls b ps q
    exact ⟨more, by rw [upd_ne (ne r)]; exact r⟩
  · rw [upd_ne nL.symm]
    exact I.free
  · obtain ⟨v, o, ho, hv⟩ := I.cell x c h
    rw [upd_ne fun z => by
      rw [z, ha] at ho
      cases ho
      exact hc _ hv]
    exact I.freeC x c h
  · obtain ⟨p1, p2, p3⟩ := I.pin p hp
    exact ⟨p1, by rw [upd_ne (nP p hp)]; exact p2, p3⟩
  · by_cases c : b = a
    · subst c
      rw [upd_same] at q
      cases q
      exact ok
    · rw [upd_ne c] at q
      exact (I.hok b o q).stay (fun _ _ _ r => r) (fun e r => by rw [upd_ne (ne r)]; exact r) fun e xs r => by rw [upd_ne (ne r)]; exact r
/-- new pairs beyond a bound are taken up, one by one -/
theorem adoptPairs {n : Nat} (hs : X.s_0.heap.objs.size ≤ n) (hL : X.env.locals < n) (hP : ∀ p ∈ X.pn ++ pins, p.1 < n) : ∀ (ts : List Addr) (es : List (V × V)) (H : Hp), Inv X pins σ H s → (∀ a, n ≤ a → H a = none ∨ a ∉ ts) → ts.length = es.length → ts.Nodup → (∀ a ∈ ts, n ≤ a) →
    (∀ (i : Nat) a e, ts[i]? = some a → es[i]? = some e → ∃ u v, RelV e.1 u ∧ RelV e.2 v ∧ s.heap.get? a = some { cls := .type "tuple", data := .seq #[u, v] }) →
    ∃ H', Inv X pins σ H' s ∧ (∀ a, a ∉ ts → H' a = H a) ∧ ∀ (i : Nat) a e, ts[i]? = some a → es[i]? = some e → H' a = some (.tup [e.1, e.2])
  | [], es, H, I, _, _, _, _, _ => ⟨H, I, fun _ _ => rfl, fun i a e h => nomatch h⟩
  | t :: ts, [], H, I, _, l, _, _, _ => by cases l
  | t :: ts, e :: es, H, I, fr, l, nd, up, at' => by
    obtain ⟨u, v, ru, rv, g⟩ := at' 0 t e rfl rfl
    have nt := up t (List.mem_cons_self ..)
    have na : H t = none := (fr t nt).resolve_right fun z => z (List.mem_cons_self ..)
    have nd' := List.nodup_cons.mp nd
    have I1 := adoptX (u := .tup [e.1, e.2]) I g (fun v z => by cases z) ⟨by show 2 ≤ sizeLine; decide, [u, v], .cons ru (.cons rv .nil), ⟨_, g, rfl, _, rfl⟩⟩ na (by
      cases k : X.s_0.heap.get? t with
      | none => rfl
      | some o => exact absurd (Nat.lt_of_lt_of_le (Heap.lt_size k) (Nat.le_trans hs nt)) (Nat.lt_irrefl _)) (Nat.ne_of_gt (Nat.lt_of_lt_of_le hL nt)) (fun p hp => Nat.ne_of_lt (Nat.lt_of_lt_of_le (hP p hp) nt))
    obtain ⟨H', I', h1, h2⟩ := adoptPairs hs hL hP ts es _ I1 (fun a ha => by
      by_cases c : a = t
      · right
        rw [c]
        exact nd'.1
      · rw [upd_ne c]
        rcases fr a ha with z | z
        · exact .inl z
        · exact .inr fun m => z (List.mem_cons_of_mem _ m)) (by simpa using l) nd'.2 (fun a ha => up a (List.mem_cons_of_mem _ ha)) fun i a e' x y => at' (i + 1) a e' x y
    refine ⟨H', I', fun a ha => ?_, fun i a e' x y => ?_⟩
    · rw [h1 a fun m => ha (List.mem_cons_of_mem _ m), upd_ne fun z => ha (by rw [z]; exact List.mem_cons_self ..)]
    · cases i with
      | zero =>
        cases x
        cases y
        rw [h1 t nd'.1, upd_same]
      | succ i => exact h2 i a e' x y
end
def tListItems (td : TE) : TE := fun σ H Q => td σ H fun x H1 => ∃ (d : Addr) (kvs : List (Key × V)), x = .ref d ∧ H1 d = some (.dK kvs) ∧ ∀ (p : Addr) (ts : List Addr) (H2 : Hp), H1 p = none → Ex H1 H2 → H2 p = some (.lst (ts.map V.ref)) → ts.length = kvs.length →
  (∀ (i : Nat) (t : Addr) (e : Key × V), ts[i]? = some t → kvs[i]? = some e → H2 t = some (.tup [kV e.1, e.2])) → (∀ t ∈ ts, H1 t = none) → Q (.ref p) H2
section
variable {X : Cx} {e : Expr} {td : TE} {p apos cpos pos : Pos}
theorem pe_listItems (hex : X.calm = true) (hg : Gl X "list") (hm : X.mg "list" = none) (he : PE X e td) (hbase : attributeBase e "items" X.env (eval e X.env) = eval e X.env := by rfl) (hline : (apos.endLine == cpos.line) = true := by rfl)
    (hst : starEach [.Call (.Attribute e "items" apos) [] [] cpos] X.env = (false, eval (.Call (.Attribute e "items" apos) [] [] cpos) X.env) :: starEach [] X.env := by rfl) :
    PE X (.Call (.Name "list" p) [.Call (.Attribute e "items" apos) [] [] cpos] [] pos) (tListItems td) := by
  refine ⟨fun pins s σ H Q I h => ?_⟩
  refine wpAny_Call_Name_kw (ld_blt I hg hm (u := .type "list") rfl ?_ (by decide) (by decide))
  refine PyProof.Rows.callWith_type1 ?_ hst rfl
  rw [hst]
  refine Calls.spliced_cons ?_
  refine wpAny_Call_method (T := "dict") (id := "dict.items") hbase rfl hline PySem.F.plainAttrs_dict PySem.F.slot_dict_items PySem.F.type_dict_items (thn (he.run pins s σ H _ I h) fun u s1 ⟨x, H1, I1, rx, d, kvs, ex, hd, q⟩ => ?_)
  subst ex
  obtain rfl : u = Value.ref d := rx
  obtain ⟨hz, hsys, vs, kv, dd⟩ := dk_of I1.hok hd
  refine ⟨dd.typeIs, dd.mapOf.noDict, ?_⟩
  show wpAny _ _ (callWith cpos (.builtin "dict.items") [.ref d] [] []) _ X.xe s1
  refine method_meetsIn PySem.F.slot_dict_items PySem.F.entry_dict_items rfl (PySem.evalArgs_none ⟨rfl, dd.typeIs, PySem.F.args_dict_items_1 _, _, meets_dict_items (mixKind X.prog X.w) d hsys, ⟨vs, dd⟩, ?_⟩)
  refine Calls.spliced_nil ?_
  have I2 : Inv X pins σ H1 { s1 with heap := s1.heap.push { cls := .type "dict_items", data := .fields #[.ref d] } } := I1.kept (t' := s1.toks) fun b ob q => Heap.get?_push_of_some _ q
  have hl : kvs.length = vs.length := Paired.length kv
  obtain ⟨ep, da⟩ := (dd.push { cls := .type "dict_items", data := .fields #[.ref d] }).dictAt
  refine PySem.W.kdx_call (knd := mixKind X.prog X.w) (kvs := vs) (ep := ep) (I2.ok.hd hex) ⟨_, Heap.get?_push_size _ rfl, rfl, rfl⟩ da (by rw [← hl]; exact hz) fun h' tk acc c as hk hS hla hG hacc => ?_
  have I3 : Inv X pins σ H1 { s1 with heap := h', toks := tk } := I2.kept hk
  generalize hsz : (s1.heap.push { cls := .type "dict_items", data := .fields #[.ref d] }).objs.size = S at *
  have hS0 : s1.heap.objs.size ≤ S := by rw [← hsz, size_push']; exact Nat.le_succ _
  have hloc : X.env.locals < S := by
    obtain ⟨m, hn, _⟩ := I1.loc
    exact Nat.lt_of_lt_of_le hn.lt hS0
  have hab : X.s_0.heap.objs.size ≤ S := Nat.le_trans I1.ok.above (Nat.le_of_lt hloc)
  have hpin : ∀ p ∈ X.pn ++ pins, p.1 < S := fun p hp => Nat.lt_of_lt_of_le (Heap.lt_size (I1.pin p hp).1) hS0
  have fr : ∀ a, S ≤ a → H1 a = none := fun a ha => I1.hok.fresh (Nat.le_trans hS0 ha)
  have rise := hG.rise
  have above := hG.above
  obtain ⟨H', I4, k1, k2⟩ := adoptPairs (s := { s1 with heap := h', toks := tk }) hab hloc hpin as (kvs.map fun e => (kV e.1, e.2)) H1 I3 (fun a ha => .inl (fr a ha)) (by rw [List.length_map, hla, hl]) (rise.imp fun h => Nat.ne_of_lt h) (fun a ha => Nat.le_of_lt (above a ha)) (fun i a e ga ge => by
    rw [List.getElem?_map] at ge
    cases gk : kvs[i]? with
    | none =>
      rw [gk] at ge
      cases ge
    | some z =>
      obtain ⟨k, v⟩ := z
      rw [gk] at ge
      cases ge
      obtain ⟨key, k', x, hv', hkey, ht⟩ := hG.pairs i a ga
      obtain ⟨u, hu, ru⟩ := kv_get kv gk
      rw [hu] at hv'
      cases hv'
      exact ⟨key, _, relV_key (show keyIs _ key = true from hkey), ru, ht⟩)
  have nS : S ∉ as := fun m => Nat.lt_irrefl _ (above S m)
  have I5 := adoptL (xs := as.map V.ref) (its := as.map Value.ref) (n := c) I4 (by
    rw [← hacc, Array.toArray_toList]
    exact hS) (by rw [List.length_map, hla, ← hl]; exact hz) refs_vals (by rw [k1 S nS]; exact fr S (Nat.le_refl _)) (by
      cases k : X.s_0.heap.get? S with
      | none => rfl
      | some o => exact absurd (Nat.lt_of_lt_of_le (Heap.lt_size k) hab) (Nat.lt_irrefl _)) (Nat.ne_of_gt hloc) (fun p hp => Nat.ne_of_lt (hpin p hp))
  refine ⟨.ref S, _, I5, rfl, q S as _ (fr S (Nat.le_refl _)) (fun a u hu => ?_) upd_same (by rw [hla, hl]) (fun i t e gt ge => ?_) (fun t ht => fr t (Nat.le_of_lt (above t ht)))⟩
  · have na : a ∉ as := fun m => by
      rw [fr a (Nat.le_of_lt (above a m))] at hu
      cases hu
    have nz : a ≠ S := fun z => by
      rw [z, fr S (Nat.le_refl _)] at hu
      cases hu
    rw [upd_ne nz, k1 a na]
    exact hu
  · rw [upd_ne fun z => nS (by rw [← z]; exact List.mem_of_getElem? gt)]
    exact k2 i t (kV e.1, e.2) gt (by rw [List.getElem?_map, ge]; rfl)
/-! ### min(xs, default=None) of an empty list -/
def rMinNone (K : PySem.W.Frag) : List V → List V → Hp → VK → Prop := fun vs zs H Q => ∃ (a : Addr), vs = [V.ref a] ∧ zs = [.non] ∧ SqL K H a [] ∧ Q .non H
theorem cr_minNone {K : PySem.W.Frag} (hX : X.K = K) (hc : X.calm = true) (hu : X.A.units + 1 < cLine) : CallRK X (.builtin "min") [Str.ofString "default"] (rMinNone K) := by
  subst hX
  intro pins s σ H vs zs us ws Q I r rz h
  obtain ⟨a, rfl, rfl, hs, q⟩ := h
  obtain rfl := Vals.ref1 r
  obtain ⟨w1, rfl, e1⟩ := vals1 rz
  obtain rfl : w1 = Value.none := e1
  obtain ⟨its, rv, hl, _⟩ := I.list hs
  cases rv
  exact PySem.W.min_list_default (xs := []) (as := []) (I.ok.hd hc) hl.isList .nil ⟨(fun _ h => nomatch h), (fun _ h => nomatch h)⟩ (by show _ + 1 + 0 < _; omega) (fun _ h' tk hk => ⟨.non, H, I.kept hk, rfl, q⟩) fun y ys i v h' tk bs e => nomatch e
/-! ### len(d) -/
def rLenD : List V → Hp → VK → Prop := fun xs H Q => ∃ (a : Addr) (kvs : List (Key × V)), xs = [V.ref a] ∧ Rd H a (.dK kvs) ∧ Q (.int (kvs.length : Nat)) H
theorem call_lenD : CallR X (.builtin "len") rLenD := by
  intro pins s σ H xs us Q I r h
  obtain ⟨a, kvs, rfl, hd, q⟩ := h
  obtain rfl := Vals.ref1 r
  exact d_len I hd fun t s' I' => ⟨.int _, H, I', ⟨t, rfl⟩, q⟩
end
/-! ### dicts walked -/
section
variable {K : PySem.W.Frag} {σ : L2.St} {H : Hp} {te td tk tv : TE} {tt : TT} {d : Addr} {kvs : List (Key × V)}
/-- H with the dict at d locked -/
def frz (H : Hp) (d : Addr) (od : Obj) (kvs : List (Key × V)) : Hp := upd H d (.frz od (.dK kvs))
theorem unfrz {H H' : Hp} {od : Obj} (g : H d = some (.dK kvs)) (e : Ex (frz H d od kvs) H') : Ex H (upd H' d (.dK kvs)) := fun a u h => by
  by_cases c : a = d
  · subst c
    rw [g] at h
    cases h
    exact upd_same
  · rw [upd_ne c]
    exact e a u (by unfold frz; rw [upd_ne c]; exact h)
theorem ix_pairK {i : Nat} {e : Key × V} {x y : V} (h : kvs[i]? = some e) (hx : (kvs[i]?.map fun kv => kV kv.1) = some x) (hy : (kvs[i]?.map Prod.snd) = some y) : x = kV e.1 ∧ y = e.2 := by
  rw [h] at hx hy
  cases hx
  cases hy
  exact ⟨rfl, rfl⟩
/-- [e for k, v in d.items() if ..] of pure parts -/
theorem el_lcIt {i j m : Nat} {ws : List Nat} (f : Nat → Bool) (v : Nat → V) (hd : σ[m]? = some (some (.ref d))) (g : H d = some (.dK kvs)) (hz : kvs.length ≤ 40000) (hw : ∀ x y, wipe (((wipe σ ws).set i (some x)).set j (some y)) ws = wipe σ ws)
    (ht : ∀ (n : Nat) e H1, kvs[n]? = some e → EvT tt (((wipe σ ws).set i (some (kV e.1))).set j (some e.2)) H1 (f n)) (he : ∀ (n : Nat) e H1, kvs[n]? = some e → f n = true → Ev te (((wipe σ ws).set i (some (kV e.1))).set j (some e.2)) H1 (v n)) :
    EvL (tLockE (tLc (iItems (tVar m)) (g2 K i j) tt te ws)) σ H (given kvs.length f v) := fun H1 e Q q => ⟨d, .dK kvs, e _ _ g, True.intro, fun od => ⟨.ref d, hd, d, od, kvs, rfl, upd_same, fun Dl hD => by
    have hDd : Dl ≠ d := fun z => by
      rw [z, upd_same] at hD
      cases hD
    refine lc_it (walk_items (d := d) (o := od) (kvs := kvs)) (fun n H' => Cw (frz H1 d od kvs) f v Dl n H') ⟨hD, Ex.new hD, upd_same⟩ (fun n H' _ p => p.2.1 _ _ upd_same) (fun n x H' H'' hn p y => ?_) (fun H' p => ⟨p.2.1 _ _ upd_same, q Dl _ ?_ (unfrz (e _ _ g) p.2.1) ?_⟩)
    · obtain ⟨T, x1, y1, rfl, hT, rfl, hx, hy⟩ := y
      have gn := List.getElem?_eq_getElem hn
      obtain ⟨rfl, rfl⟩ := ix_pairK gn hx hy
      refine g2_go upd_same ⟨hw _ _, ?_⟩
      obtain ⟨p1, p2, p3⟩ := p
      have nT : Dl ≠ T := fun z => by
        rw [← z, p3] at hT
        cases hT
      exact cw_turn (H := frz H1 d od kvs) ⟨p1, p2.trans (Ex.new hT), by rw [upd_ne nT]; exact p3⟩ (by omega) (ht n _ _ gn) (fun hf => he n _ _ gn hf)
    · rw [upd_ne hDd] at hD
      exact hD
    · rw [upd_ne hDd]
      exact p.2.2⟩⟩
/-- [e for k in d] of pure parts -/
theorem el_lcKy {i m : Nat} {ws : List Nat} (f : Nat → Bool) (v : Nat → V) (hd : σ[m]? = some (some (.ref d))) (g : H d = some (.dK kvs)) (hz : kvs.length ≤ 40000) (hw : ∀ x, wipe ((wipe σ ws).set i (some x)) ws = wipe σ ws)
    (ht : ∀ (n : Nat) e H1, kvs[n]? = some e → EvT tt ((wipe σ ws).set i (some (kV e.1))) H1 (f n)) (he : ∀ (n : Nat) e H1, kvs[n]? = some e → f n = true → Ev te ((wipe σ ws).set i (some (kV e.1))) H1 (v n)) :
    EvL (tLockE (tLc (iKeys (tVar m)) (gName i) tt te ws)) σ H (given kvs.length f v) := fun H1 e Q q => ⟨d, .dK kvs, e _ _ g, True.intro, fun od => ⟨.ref d, hd, d, od, rfl, .inl ⟨kvs, upd_same, fun Dl hD => by
    have hDd : Dl ≠ d := fun z => by
      rw [z, upd_same] at hD
      cases hD
    refine lc_it (walk_keys (d := d) (o := od) (kvs := kvs)) (fun n H' => Cw (frz H1 d od kvs) f v Dl n H') ⟨hD, Ex.new hD, upd_same⟩ (fun n H' _ p => p.2.1 _ _ upd_same) (fun n x H' H'' hn p y => ?_) (fun H' p => ⟨p.2.1 _ _ upd_same, q Dl _ ?_ (unfrz (e _ _ g) p.2.1) ?_⟩)
    · obtain ⟨rfl, k, v1, gk, rfl⟩ := y
      exact ⟨hw _, cw_turn (H := frz H1 d od kvs) p (by omega) (ht n _ _ gk) (fun hf => he n _ _ gk hf)⟩
    · rw [upd_ne hDd] at hD
      exact hD
    · rw [upd_ne hDd]
      exact p.2.2⟩⟩⟩
def RetDk (kvs : List (Key × V)) (H : Hp) (Q : VK) : Prop := ∀ p H2, H p = none → Ex H H2 → H2 p = some (.dK kvs) → Q (.ref p) H2
def EvDk (te : TE) (σ : L2.St) (H : Hp) (kvs : List (Key × V)) : Prop := ∀ H1, Ex H H1 → ∀ Q : VK, RetDk kvs H1 Q → te σ H1 Q
def SpDk (sp : Sp) (vs : List V) (H : Hp) (kvs : List (Key × V)) : Prop := ∀ H1, Ex H H1 → ∀ Q : VK, RetDk kvs H1 Q → ∀ E : XK, sp vs H1 Q E
theorem dc_it {J : It} {n : Nat} {G : Hp → Prop} {Y : Nat → Hp → V → Hp → Prop} (w : Walk J n G Y) {g : TG} {ws : List Nat} {H1 : Hp} {D : Addr} {Qd : Hp → Prop} (Pv : Nat → Hp → Prop) (h0 : Pv 0 (upd H1 D (.dK []))) (hG : ∀ i H, i ≤ n → Pv i H → G H)
    (hs : ∀ i x H H', i < n → Pv i H → Y i H x H' → g x (wipe σ ws) H' fun σ2 H2 => wipe σ2 ws = wipe σ ws ∧ tt σ2 H2 fun b H3 =>
      if b = true then tk σ2 H3 fun y H4 => tv σ2 H4 fun z H5 => ∃ kvs k, y = kV k ∧ H5 D = some (.dK kvs) ∧ kvs.length < sizeLine ∧ Pv (i + 1) (upd H5 D (.dK (putK kvs k z))) else Pv (i + 1) H3) (hd : ∀ H, Pv n H → Qd H) :
    ∃ W : Nat → Nat → Hp → Prop, (∃ m, W 0 m (upd H1 D (.dK []))) ∧ ∀ i m H, W i m H →
      (J.stop i H ∧ Qd H) ∨ (J.go i H ∧ ∃ Nx : Hp → Prop, (∀ H', Nx H' → ∃ m', m' < m ∧ W (i + 1) m' H') ∧ ∀ x H', J.yld i H x H' → g x (wipe σ ws) H' fun σ2 H2 => wipe σ2 ws = wipe σ ws ∧ tt σ2 H2 fun b H3 =>
        if b = true then tk σ2 H3 fun y H4 => tv σ2 H4 fun z H5 => ∃ kvs k, y = kV k ∧ H5 D = some (.dK kvs) ∧ kvs.length < sizeLine ∧ Nx (upd H5 D (.dK (putK kvs k z))) else Nx H3) := by
  refine ⟨fun i m H => m = n - i ∧ i ≤ n ∧ Pv i H, ⟨n, by simp, Nat.zero_le _, h0⟩, ?_⟩
  rintro i m H ⟨rfl, hi, p⟩
  have q := hG i H hi p
  by_cases hlt : i < n
  · refine .inr ⟨w.goes i H hlt q, Pv (i + 1), fun H' p' => ⟨n - (i + 1), by omega, rfl, hlt, p'⟩, fun x H' y => hs i x H H' hlt p (w.yields i H x H' hlt q y)⟩
  · have e : i = n := by omega
    subst e
    exact .inl ⟨w.stops H q, hd H p⟩
theorem valV_no {l : List (Key × V)} {k : Key} (h : ∀ e ∈ l, e.1 ≠ k) : valV l k = none := by
  induction l with
  | nil => rfl
  | cons a l ih =>
    rw [valV_neg (h a (List.mem_cons_self ..))]
    exact ih fun e he => h e (List.mem_cons_of_mem _ he)
theorem valV_mem {l : List (Key × V)} {k : Key} {v : V} (h : valV l k = some v) : (k, v) ∈ l := by
  induction l with
  | nil => cases h
  | cons a l ih =>
    by_cases c : a.1 = k
    · rw [valV_pos c] at h
      cases h
      rw [← c]
      exact List.mem_cons_self ..
    · rw [valV_neg c] at h
      exact List.mem_cons_of_mem _ (ih h)
/-- {k: v for k, v in d.items() if ..} -/
theorem dk_dcIt {i j m : Nat} {ws : List Nat} (p : Key × V → Bool) (hd : σ[m]? = some (some (.ref d))) (g : H d = some (.dK kvs)) (nd : (kvs.map (·.1)).Nodup) (hz : kvs.length ≤ 40000) (hw : ∀ x y, wipe (((wipe σ ws).set i (some x)).set j (some y)) ws = wipe σ ws)
    (ht : ∀ (e : Key × V) H1, e ∈ kvs → EvT tt (((wipe σ ws).set i (some (kV e.1))).set j (some e.2)) H1 (p e)) (hk : ∀ (e : Key × V) H1, Ev tk (((wipe σ ws).set i (some (kV e.1))).set j (some e.2)) H1 (kV e.1)) (hv : ∀ (e : Key × V) H1, Ev tv (((wipe σ ws).set i (some (kV e.1))).set j (some e.2)) H1 e.2) :
    EvDk (tLockE (tDc (iItems (tVar m)) (g2 K i j) tt tk tv ws)) σ H (kvs.filter p) := fun H1 e Q q => ⟨d, .dK kvs, e _ _ g, True.intro, fun od => ⟨.ref d, hd, d, od, kvs, rfl, upd_same, fun Dl hD => by
    have hDd : Dl ≠ d := fun z => by
      rw [z, upd_same] at hD
      cases hD
    refine dc_it (walk_items (d := d) (o := od) (kvs := kvs)) (fun n H' => frz H1 d od kvs Dl = none ∧ Ex (frz H1 d od kvs) H' ∧ H' Dl = some (.dK ((kvs.take n).filter p))) ⟨hD, Ex.new hD, upd_same⟩ (fun n H' _ p => p.2.1 _ _ upd_same) (fun n x H' H'' hn pp y => ?_) (fun H' pp => ⟨pp.2.1 _ _ upd_same, q Dl _ ?_ (unfrz (e _ _ g) pp.2.1) ?_⟩)
    · obtain ⟨T, x1, y1, rfl, hT, rfl, hx, hy⟩ := y
      have gn := List.getElem?_eq_getElem hn
      obtain ⟨rfl, rfl⟩ := ix_pairK gn hx hy
      have mn := List.getElem_mem hn
      have ne : ∀ e ∈ kvs.take n, e.1 ≠ (kvs[n]).1 := fun e he z => by
        obtain ⟨t, ht', et⟩ := List.getElem_of_mem he
        rw [List.length_take] at ht'
        have e1 : kvs[t]? = some e := by
          rw [← et, List.getElem_take]
          exact List.getElem?_eq_getElem (by omega)
        have a : (kvs.map (·.1))[t]? = some e.1 := by rw [List.getElem?_map, e1]; rfl
        have b : (kvs.map (·.1))[n]? = some e.1 := by rw [List.getElem?_map, gn, z]; rfl
        have := (List.getElem?_inj (by rw [List.length_map]; omega) nd).mp (a.trans b.symm)
        omega
      have ts : kvs.take (n + 1) = kvs.take n ++ [kvs[n]] := by rw [List.take_succ, gn]; rfl
      generalize kvs[n] = ee at *
      refine g2_go upd_same ⟨hw _ _, ?_⟩
      obtain ⟨p1, p2, p3⟩ := pp
      have nT : Dl ≠ T := fun z => by
        rw [← z, p3] at hT
        cases hT
      have p3' : upd H' T (.tup [kV ee.1, ee.2]) Dl = some (.dK ((kvs.take n).filter p)) := by rw [upd_ne nT]; exact p3
      have p2' := p2.trans (Ex.new (o := .tup [kV ee.1, ee.2]) hT)
      refine ht ee _ mn _ (Ex.refl _) _ fun H3 e3 => ?_
      cases hp : p ee with
      | true =>
        refine iteT (hk ee H3 H3 (Ex.refl _) _ fun H4 e4 => hv ee H4 H4 (Ex.refl _) _ fun H5 e5 => ⟨_, ee.1, rfl, e5 _ _ (e4 _ _ (e3 _ _ p3')), ?_, p1, (p2'.trans ((e3.trans e4).trans e5)).mut p1, ?_⟩)
        · have := List.length_filter_le p (kvs.take n)
          rw [List.length_take] at this
          exact sz_lt (by omega)
        · rw [upd_same, ts, List.filter_append, putK_new _ (valV_no fun e he => ne e (List.mem_filter.mp he).1)]
          show some (HO.dK _) = some (HO.dK (_ ++ List.filter p [ee]))
          rw [List.filter_cons, if_pos hp]
          rfl
      | false =>
        refine iteF ⟨p1, p2'.trans e3, ?_⟩
        rw [ts, List.filter_append]
        show H3 Dl = some (HO.dK (_ ++ List.filter p [ee]))
        rw [List.filter_cons, if_neg (by rw [hp]; exact Bool.false_ne_true)]
        show H3 Dl = some (HO.dK (_ ++ []))
        rw [List.append_nil]
        exact e3 _ _ p3'
    · rw [upd_ne hDd] at hD
      exact hD
    · rw [upd_ne hDd, pp.2.2, List.take_length]⟩⟩
theorem s_retDk {D : Ends} (h : EvDk te σ H kvs) (k : ∀ p H1, H p = none → Ex H H1 → H1 p = some (.dK kvs) → D.rt (.ref p) H1) : tRet te D σ H := h H (Ex.refl H) _ k
theorem q_asgDk {D : Ends} {tz : TS} {i : Nat} (h : EvDk te σ H kvs) (k : ∀ p H1, H p = none → Ex H H1 → H1 p = some (.dK kvs) → tz D (σ.set i (some (.ref p))) H1) : tSeq (tAsg te (gName i)) tz D σ H := h H (Ex.refl H) _ k
theorem dk_new : EvDk tDNewK σ H [] := fun H1 e Q q p hp => q p _ hp (Ex.new hp) upd_same
theorem dk_call {sp : Sp} {vs : List V} {E : XK} {ta : TA} (h : EvA ta σ H vs) (hs : SpDk sp vs H kvs) : EvDk (tCall sp [] E ta) σ H kvs := fun H1 e Q q =>
  h H1 e _ fun H2 e2 => by
    have := hs H2 (e.trans e2) Q (fun p H3 hp e3 g => q p H3 (fresh_back e2 hp) (e2.trans e3) g) E
    rw [← List.append_nil vs] at this
    exact this
/-- d.get(k, x) -/
theorem ev_get2 {ty tx : TE} {k : Key} {x : V} (hd : Ev td σ H (.ref d)) (g : H d = some (.dK kvs)) (hk : Ev ty σ H (kV k)) (hx : Ev tx σ H x) : Ev (tDGet2 td ty tx) σ H ((valV kvs k).getD x) := fun H1 e Q q =>
  hd H1 e _ fun H2 e2 => ⟨d, rfl, .inl ⟨kvs, .inl ((e.trans e2) _ _ g)⟩, hk H2 (e.trans e2) _ fun H3 e3 => hx H3 ((e.trans e2).trans e3) _ fun H4 e4 => ⟨_, DGet.k (((e.trans e2).trans (e3.trans e4)) _ _ g), q H4 (e2.trans (e3.trans e4))⟩⟩
/-- d[k] = v -/
theorem s_dput {ty tv' : TE} {D : Ends} {k : Key} {v : V} (g : H d = some (.dK kvs)) (hv : Ev tv' σ H v) (hd : Ev td σ H (.ref d)) (hk : Ev ty σ H (kV k)) (hz : kvs.length < 100000) (q : ∀ H1, Ex H H1 → D.nx σ (upd H1 d (.dK (putK kvs k v)))) : sDPut td ty tv' D σ H :=
  hv H (Ex.refl H) _ fun H1 e1 => hd H1 e1 _ fun H2 e2 => hk H2 (e1.trans e2) _ fun H3 e3 => ⟨d, _, rfl, DPut.k (((e1.trans e2).trans e3) _ _ g) (sz_lt hz), q H3 ((e1.trans e2).trans e3)⟩
theorem ev_lenDk {ta : TE} (h : EvDk ta σ H kvs) : Ev (tCB rLenD (tCons ta tNil)) σ H (.int (kvs.length : Nat)) := fun H1 e Q q =>
  h H1 e _ fun p H2 hp e2 g => ⟨p, kvs, rfl, .inl g, q H2 e2⟩
end
end Bk
namespace Bk
open PySem PySem.Spec PyProof.Rows L2 Evl
section
variable {K : PySem.W.Frag} {σ : L2.St} {H : Hp} {te tl : TE} {tt : TT} {tu tz : TS} {D : Ends} {d : Addr} {kvs : List (Key × V)}
theorem given_none (n : Nat) (v : Nat → V) : given n (fun _ => false) v = [] := by
  unfold given
  simp
theorem q_asgLk {i : Nat} {xs : List V} (h : EvL (tLockE te) σ H xs) (k : ∀ p H1, H p = none → Ex H H1 → H1 p = some (.lst xs) → tz D (σ.set i (some (.ref p))) H1) : tSeq (tLock (tAsg te (gName i))) tz D σ H := by
  obtain ⟨d, u, h1, h2, h3⟩ := h H (Ex.refl H) (fun v H' => tz D (σ.set i (some v)) H') k
  exact ⟨d, u, h1, h2, h3⟩
/-- for x, y in xs (a list of pairs) -/
theorem q_forP2 {a : Addr} {xs : List V} {i j : Nat} (h : Ev tl σ H (.ref a)) (hx : SqL K H a xs) (Pv : Nat → L2.St → Hp → Prop) (h0 : ∀ H1, Ex H H1 → Pv 0 σ H1) (hl : ∀ n σ' H', n ≤ xs.length → Pv n σ' H' → SqL K H' a xs)
    (hs : ∀ n v σ' H', xs[n]? = some v → Pv n σ' H' → ∃ t x y, v = .ref t ∧ SqT K H' t [x, y] ∧ tu { D with nx := Pv (n + 1), ct := Pv (n + 1), bk := tz D } ((σ'.set i (some x)).set j (some y)) H') (hd : ∀ σ' H', Pv xs.length σ' H' → tz D σ' H') :
    tSeq (tFor (iList K tl) (gTup K 2 (gCons (gName i) (gCons (gName j) gNil))) tu) tz D σ H :=
  h H (Ex.refl H) _ fun H1 e => ⟨a, rfl, ⟨xs, ex_l e hx⟩, for_list (D := { D with nx := tz D }) Pv (h0 H1 e) hl (fun n v σ' H' hv p => by
    obtain ⟨t, x, y, rfl, ht, q⟩ := hs n v σ' H' hv p
    exact ⟨t, _, rfl, ht, rfl, _, _, rfl, _, _, rfl, rfl, q⟩) hd⟩
/-- xs = [a new tuple for k, v in d.items() if true]: of what is in it nothing is told -/
theorem q_lcAny {i j m n : Nat} {ws : List Nat} {us : Key × V → List V} (hd : σ[m]? = some (some (.ref d))) (g : H d = some (.dK kvs)) (hz : kvs.length ≤ 40000) (hw : ∀ x y, wipe (((wipe σ ws).set i (some x)).set j (some y)) ws = wipe σ ws)
    (ht : ∀ (e : Key × V) H1, e ∈ kvs → EvT tt (((wipe σ ws).set i (some (kV e.1))).set j (some e.2)) H1 true) (he : ∀ (e : Key × V) H1, e ∈ kvs → EvU te (((wipe σ ws).set i (some (kV e.1))).set j (some e.2)) H1 (us e))
    (k : ∀ p H1, Ex H H1 → tz D (σ.set n (some (.ref p))) H1) : tSeq (tLock (tAsg (tLc (iItems (tVar m)) (g2 K i j) tt te ws) (gName n))) tz D σ H := ⟨d, .dK kvs, g, True.intro, fun od => ⟨.ref d, hd, d, od, kvs, rfl, upd_same, fun Dl hD => by
    refine lc_it (walk_items (d := d) (o := od) (kvs := kvs)) (fun t H' => frz H d od kvs Dl = none ∧ Ex (frz H d od kvs) H' ∧ ∃ acc, H' Dl = some (.lst acc) ∧ acc.length ≤ t) ⟨hD, Ex.new hD, [], upd_same, Nat.le_refl _⟩ (fun t H' _ p => p.2.1 _ _ upd_same) (fun t x H' H'' hn pp y => ?_) (fun H' pp => ⟨pp.2.1 _ _ upd_same, k Dl _ (unfrz g pp.2.1)⟩)
    obtain ⟨T, x1, y1, rfl, hT, rfl, hx, hy⟩ := y
    have gn := List.getElem?_eq_getElem hn
    obtain ⟨rfl, rfl⟩ := ix_pairK gn hx hy
    have mn := List.getElem_mem hn
    generalize kvs[t] = ee at *
    refine g2_go upd_same ⟨hw _ _, ?_⟩
    obtain ⟨p1, p2, acc, p3, p4⟩ := pp
    have nT : Dl ≠ T := fun z => by
      rw [← z, p3] at hT
      cases hT
    have p3' : upd H' T (.tup [kV ee.1, ee.2]) Dl = some (.lst acc) := by rw [upd_ne nT]; exact p3
    have p2' := p2.trans (Ex.new (o := .tup [kV ee.1, ee.2]) hT)
    refine ht ee _ mn _ (Ex.refl _) _ fun H3 e3 => iteT ?_
    refine he ee H3 mn H3 (Ex.refl _) _ fun p H4 hp e4 g4 => ⟨acc, e4 _ _ (e3 _ _ p3'), sz_lt (by omega), p1, (p2'.trans (e3.trans e4)).mut p1, _, upd_same, ?_⟩
    rw [List.length_append]
    show acc.length + 1 ≤ t + 1
    omega⟩⟩
end
end Bk
namespace Bk
open PySem PySem.Spec PyProof.Rows L2 Evl
/-! ### fe(e, ..), fe any expression whose value is one of some defs -/
def RunF (X : Cx) (E : XK) (f : Addr) (sp : Sp) : Prop := PySem.W.keepIn X.K (.ref f) = true ∧ ∀ (pins : List (Addr × Obj)) (σ : L2.St) (H : Hp) (s : Shared) (Q : VK) (us : List Value) (vs : List V), Inv X pins σ H s → Vals vs us → sp vs H Q E → wpAny (model X.prog X.w) X.A (call (.ref f) us) (EP X pins σ Q) X.xe s
def Runs (X : Cx) (E : XK) (fs : List (Addr × Sp)) : Prop := ∀ q ∈ fs, RunF X E q.1 q.2
def tCallE (fs : List (Addr × Sp)) (E : XK) (tf : TE) (t : TA) : TE := fun σ H Q => tf σ H fun v H1 => ∃ (f : Addr) (sp : Sp), v = .ref f ∧ (f, sp) ∈ fs ∧ t σ H1 fun vs H2 => sp vs H2 Q E
section
variable {X : Cx} {CX : CXT} {k : Nat} {f : Addr} {fd : FuncData} {ps : List Str} {sp : Sp} {E : XK} {fs : List (Addr × Sp)} {fe e : Expr} {es : List Expr} {tf : TE} {t : TA} {pos : Pos}
theorem runF (F : FnG X.prog X.w X.K X.mg X.base CX k f fd ps sp) (hr : Rm k X.A) (hk : PySem.W.keepIn X.K (.ref f) = true) (hb : Binds X.K fd ps []) (hx : Passes CX X E) : RunF X E f sp :=
  ⟨hk, fun pins σ H s Q us vs I r h => runG F hr hb .nil hx I r (by rw [List.append_nil]; exact h)⟩
theorem runs_nil : Runs X E [] := fun _ h => nomatch h
theorem runs_cons (h : RunF X E f sp) (r : Runs X E fs) : Runs X E ((f, sp) :: fs) := fun q m => (List.mem_cons.mp m).elim (fun z => z ▸ h) (r q)
theorem pe_callE (hf : PE X fe tf) (hfs : Runs X E fs) (ha : PA X (e :: es) t)
    (hst : starEach (e :: es) X.env = (false, eval e X.env) :: starEach es X.env := by rfl) (hpl : (backTo pos (starEach es X.env)).any (·.1) = false := by rfl)
    (he : eval (.Call fe (e :: es) [] pos) X.env = (do callWith pos (← eval fe X.env) [] (backTo pos (starEach (e :: es) X.env)) (backToKw pos (keywordEach [] X.env))) := by rfl) :
    PE X (.Call fe (e :: es) [] pos) (tCallE fs E tf t) := by
  refine ⟨fun pins s σ H Q I h => PyProof.Rows.Call_ (thn (hf.run pins s σ H _ I h) fun u s0 ⟨v, H0, I0, r0, f, sp, ev, m, q0⟩ => ?_) he⟩
  subst ev
  obtain rfl : u = Value.ref f := r0
  refine PySem.W.callWith_K (h₀ := X.base) I.ok.mod.kin (hfs _ m).1 (thn (ha.run pos pins s0 σ H0 _ I0 q0) fun us s1 ⟨vs, H1, I1, r1, q1⟩ => ⟨I1.kIn, ?_⟩) hst hpl
  exact (hfs _ m).2 pins σ H1 s1 Q us vs I1 r1 q1
end
section
variable {K : PySem.W.Frag} {σ : L2.St} {H : Hp} {tf : TE} {t : TA} {fs : List (Addr × Sp)} {E : XK} {f : Addr} {sp : Sp} {vs : List V} {Q : VK}
theorem callE (h : Ev tf σ H (.ref f)) (m : (f, sp) ∈ fs) (ha : ∀ H1, Ex H H1 → EvA t σ H1 vs) (hs : ∀ H1, Ex H H1 → sp vs H1 Q E) : tCallE fs E tf t σ H Q :=
  h H (Ex.refl H) _ fun H1 e1 => ⟨f, sp, rfl, m, ha H1 e1 H1 (Ex.refl H1) _ fun H2 e2 => hs H2 (e1.trans e2)⟩
end
end Bk
namespace Bk
open PySem PySem.Spec PyProof.Rows L2 Evl
/-! ### tuples joined and cut, empty and whole ones too: a tuple, new or not, with what is known of its items -/
theorem op_catAK {X : Cx} {K : PySem.W.Frag} (h : X.K = K) : OpR X (binaryOp .Add) (rCatA K) := by
  subst h
  exact op_catA
theorem sl_tupAK {X : Cx} {K : PySem.W.Frag} (h : X.K = K) : SlR X (rSlA K) := by
  subst h
  exact sl_tupA
def EvQP (K : PySem.W.Frag) (te : TE) (σ : L2.St) (H : Hp) (P : List V → Hp → Prop) : Prop := ∀ H1, Ex H H1 → ∀ Q : VK, (∀ p xs H2, Ex H1 H2 → SqT K H2 p xs → P xs H2 → Q (.ref p) H2) → te σ H1 Q
theorem cutV_whole {xs : List V} {lo hi : Option Int} (h : HT.sIx xs.length 0 lo = 0 ∧ HT.sIx xs.length xs.length hi = xs.length) : cutV xs lo hi = xs := by
  unfold cutV
  rw [h.1, h.2, List.drop_zero]
  exact List.take_of_length_le (by omega)
section
variable {K : PySem.W.Frag} {σ : L2.St} {H : Hp} {ta tb tc te tl : TE} {t : TT} {tr : TA} {P P1 P2 : List V → Hp → Prop} {PV : V → Hp → Prop} {D : Ends} {tz tu : TS} {sp : Sp} {E : XK}
theorem eqp_mono (h : EvQP K te σ H P) (m : ∀ xs H1, Ex H H1 → P xs H1 → P1 xs H1) : EvQP K te σ H P1 := fun H1 e Q q => h H1 e Q fun p xs H2 e2 g px => q p xs H2 e2 g (m xs H2 (e.trans e2) px)
theorem eqp_var {p : Addr} {xs : List V} (h : Ev te σ H (.ref p)) (g : SqT K H p xs) (px : ∀ H1, Ex H H1 → P xs H1) : EvQP K te σ H P := fun H1 e Q q => h H1 e _ fun H2 e2 => q p xs H2 e2 (ex_t (e.trans e2) g) (px H2 (e.trans e2))
theorem eqp_new {xs : List V} (h : EvU te σ H xs) (px : ∀ H1, Ex H H1 → P xs H1) : EvQP K te σ H P := fun H1 e Q q => h H1 e _ fun p H2 hp e2 g => q p xs H2 e2 (st_of g) (px H2 (e.trans e2))
theorem eqp_one (mono : ∀ v H1 H2, Ex H1 H2 → PV v H1 → PV v H2) (h : EvP te σ H PV) : EvQP K (tTup (tCons te tNil)) σ H (fun xs H1 => ∃ v, xs = [v] ∧ PV v H1) := fun H1 e Q q =>
  h H1 e _ fun v H2 e2 pv => ⟨sz_of (by show 1 ≤ 100000; decide), fun p hp => q p [v] _ (e2.trans (Ex.new hp)) (st_of upd_same) ⟨v, rfl, mono _ _ _ (Ex.new hp) pv⟩⟩
theorem eqp_cat (ha : EvQP K ta σ H P1) (hb : EvQP K tb σ H P2) (m1 : ∀ xs H1 H2, Ex H1 H2 → P1 xs H1 → P1 xs H2) (m2 : ∀ xs H1 H2, Ex H1 H2 → P2 xs H1 → P2 xs H2) (hz : ∀ xs ys H1, P1 xs H1 → P2 ys H1 → xs.length + ys.length ≤ 100000) :
    EvQP K (tOp (rCatA K) ta tb) σ H (fun zs H1 => ∃ xs ys, zs = xs ++ ys ∧ P1 xs H1 ∧ P2 ys H1) := fun H1 e Q q =>
  ha H1 e _ fun p xs H2 e2 g2 p1 => hb H2 (e.trans e2) _ fun r ys H3 e3 g3 p2 => by
    have p1' := m1 _ _ _ e3 p1
    refine ⟨p, r, xs, ys, rfl, rfl, ex_t e3 g2, g3, sz_of (hz xs ys H3 p1' p2), fun h0 => ?_, fun _ h1 => ?_, fun _ _ l hl => ?_⟩
    · exact q r (xs ++ ys) H3 (e2.trans e3) (by rw [h0]; exact g3) ⟨xs, ys, rfl, p1', p2⟩
    · exact q p (xs ++ ys) H3 (e2.trans e3) (by rw [h1, List.append_nil]; exact ex_t e3 g2) ⟨xs, ys, rfl, p1', p2⟩
    · exact q l (xs ++ ys) _ ((e2.trans e3).trans (Ex.new hl)) (st_of upd_same) ⟨xs, ys, rfl, m1 _ _ _ (Ex.new hl) p1', m2 _ _ _ (Ex.new hl) p2⟩
theorem eu_catA {p : Addr} {xs ys : List V} (ha : Ev ta σ H (.ref p)) (hb : EvU tb σ H ys) (h : SqT K H p xs) (h0 : xs ≠ []) (h1 : ys ≠ []) (hz : xs.length + ys.length ≤ 100000) : EvU (tOp (rCatA K) ta tb) σ H (xs ++ ys) := fun H1 e Q k =>
  ha H1 e _ fun H2 e2 => hb H2 (e.trans e2) _ fun r H3 hr e3 h3 => ⟨p, r, xs, ys, rfl, rfl, ex_t ((e.trans e2).trans e3) h, st_of h3, sz_of hz, fun c => (h0 c).elim, fun _ c => (h1 c).elim, fun _ _ l hl => k l _ (fresh_back (e2.trans e3) hl) ((e2.trans e3).trans (Ex.new hl)) upd_same⟩
theorem eqp_sl {to th : TO} {a : Addr} {xs : List V} {lo hi : Option Int} (h : Ev te σ H (.ref a)) (h1 : EvO to σ H lo) (h2 : EvO th σ H hi) (hs : SqT K H a xs) : EvQP K (tSl (rSlA K) te to th) σ H (fun ys _ => ys = cutV xs lo hi) := fun H1 e Q q =>
  h H1 e _ fun H2 e2 => h1 H2 (e.trans e2) _ fun H3 e3 => h2 H3 ((e.trans e2).trans e3) _ fun H4 e4 => by
    have e14 := (e2.trans e3).trans e4
    refine ⟨a, xs, rfl, ex_t (e.trans e14) hs, fun w => ?_, fun _ p hp => ?_⟩
    · exact q a xs H4 e14 (ex_t (e.trans e14) hs) (cutV_whole w).symm
    · exact q p _ _ (e14.trans (Ex.new hp)) (st_of upd_same) rfl
theorem ep_Q (h : EvQP K te σ H P) (k : ∀ p xs H1, Ex H H1 → SqT K H1 p xs → P xs H1 → PV (.ref p) H1) : EvP te σ H PV := fun H1 e Q q => h H1 e _ fun p xs H2 e2 g px => q (.ref p) H2 e2 (k p xs H2 (e.trans e2) g px)
/-- two new tuples to two names -/
theorem q_parUU {i j : Nat} {xs ys : List V} (h1 : EvU ta σ H xs) (h2 : ∀ p H1, H p = none → Ex H H1 → H1 p = some (.tup xs) → EvU tb σ H1 ys) (k : ∀ p q H1, H p = none → H q = none → Ex H H1 → H1 p = some (.tup xs) → H1 q = some (.tup ys) → tz D ((σ.set i (some (.ref p))).set j (some (.ref q))) H1) : tSeq (tPar i j (tCons ta (tCons tb tNil))) tz D σ H :=
  h1 H (Ex.refl H) _ fun p H2 hp e2 g2 => h2 p H2 hp e2 g2 H2 (Ex.refl H2) _ fun q H3 hq e3 g3 => ⟨_, _, rfl, k p q H3 hp (fresh_back e2 hq) (e2.trans e3) (e3 _ _ g2) g3⟩
/-- [e for x in new values if t], t never -/
theorem el_lcNone {n j : Nat} {ws : List Nat} (mono : ∀ v H1 H2, Ex H1 H2 → PV v H1 → PV v H2) (h : EvLP tl σ H (AllP PV n)) (hz : n ≤ 40000) (hw : ∀ x, wipe ((wipe σ ws).set j (some x)) ws = wipe σ ws) (ht : ∀ (x : V) H1, Ex H H1 → PV x H1 → EvT t ((wipe σ ws).set j (some x)) H1 false) : EvL (tLc (iList K tl) (gName j) t te ws) σ H [] := fun H0 e Q q =>
  h H0 e _ fun a xs H1 ha e1 hx ⟨hl, px⟩ => ⟨a, rfl, ⟨xs, sq_of hx⟩, fun Dl hD => lc_list (xs := xs) (fun _ H' => Ex H1 H' ∧ H' Dl = some (.lst [])) ⟨Ex.new hD, upd_same⟩ (fun i H' _ p => sq_of (p.1 a _ hx)) (fun i x H' hi p => ⟨hw x, ht x H' (e.trans (e1.trans p.1)) (mono _ _ _ p.1 (px x (List.mem_of_getElem? hi))) H' (Ex.refl H') _ fun H3 e3 => iteF ⟨p.1.trans e3, e3 _ _ p.2⟩⟩)
    (fun H' p => q Dl H' (fresh_back e1 hD) (e1.trans p.1) p.2)⟩
/-- a call in a test, a drawn list behind -/
theorem ev_call2P {x v : V} {y : V} (h1 : Ev ta σ H x) (h2 : EvP tb σ H PV) (h3 : ∀ H1, Ex H H1 → Ev tc σ H1 y) (hs : ∀ u H1, Ex H H1 → PV u H1 → ∀ H2, Ex H1 H2 → SpV sp [x, u, y] H2 v) : Ev (tCall sp [] E (tCons ta (tCons tb (tCons tc tNil)))) σ H v := fun H1 e Q q =>
  h1 H1 e _ fun H2 e2 => h2 H2 (e.trans e2) _ fun u H3 e3 pu => h3 H3 ((e.trans e2).trans e3) H3 (Ex.refl H3) _ fun H4 e4 => hs u H3 ((e.trans e2).trans e3) pu H4 e4 H4 (Ex.refl H4) Q (fun H5 e5 => q H5 (((e2.trans e3).trans e4).trans e5)) E
theorem ev_call3P {x v : V} {y : V} (h1 : Ev ta σ H x) (h2 : Ev tb σ H y) (h3 : EvP tc σ H PV) (hs : ∀ u H1, Ex H H1 → PV u H1 → SpV sp [x, y, u] H1 v) : Ev (tCall sp [] E (tCons ta (tCons tb (tCons tc tNil)))) σ H v := fun H1 e Q q =>
  h1 H1 e _ fun H2 e2 => h2 H2 (e.trans e2) _ fun H3 e3 => h3 H3 ((e.trans e2).trans e3) _ fun u H4 e4 pu => hs u H4 (((e.trans e2).trans e3).trans e4) pu H4 (Ex.refl H4) Q (fun H5 e5 => q H5 (((e2.trans e3).trans e4).trans e5)) E
end
end Bk
namespace PySem.HandSPX
open PySem
section
variable {M : Model} {A : Around} {E : Value → Shared → Prop} {h : Heap} {g : Array GenState} {d : Drawn} {t : Nat} {os : OsState}
variable {nm q : Str} {C N : Addr} {bs bm bmB : List Value} {hdct : Bool} {sn : List Str} {sub : List Value} {ab : Bool} {col : Option Bool} {dd : Option Addr} {k0 k1 k2 k3 k5 : Option Value} {B newId initId : String}
theorem check_new_ownK (F : ExcBaseFacts B newId initId bmB) (hT : ∀ X : String, bm.contains (.type X) = bmB.contains (.type X)) {rest : List Value} {kw : List (Str × Value)} {Q : Unit → Shared → Prop}
    (hC : h.get? C = some (excClassObj nm q C N bs bm hdct sn sub ab col dd k0 k1 k2 k3 k5 newId)) (hq : Q () ⟨h, g, d, t, os⟩) : wpAny M A (checkBuiltinCall newId ⟨.ref C :: rest, kw⟩) Q E ⟨h, g, d, t, os⟩ := by
  have hcont : (Value.ref C :: bm).contains (.type B) = true := by rw [List.contains_cons, hT, F.hasB, Bool.or_true]
  have hstar := F.noStar
  simp only [checkBuiltinCall, F.newKind, F.newSplit, F.newRow]
  repeat (first | refine wpAny_loadPart_at hC ?_ | (refine wpAny_isSubtype_exc hC ?_; rw [hcont]) | refine wpAny_staticBase_exc hC ?_ | refine wpAny_madeBy_exc hC ?_ | simp only [bne_self_eq_false, Bool.false_eq_true, if_false] | wp_step)
  exact hq
end
section
variable {prog : Program} {w : World} {A : Around} {E : Value → Shared → Prop} {R : Result → Shared → Prop} {h : Heap} {g : Array GenState} {d : Drawn} {t : Nat} {os : OsState}
variable {nm q : Str} {C N : Addr} {bs bm bmB : List Value} {hdct : Bool} {sn : List Str} {sub : List Value} {ab : Bool} {col : Option Bool} {dd : Option Addr} {k0 k1 k2 k3 k5 : Option Value} {B newId initId : String}
theorem new_ownK (F : ExcBaseFacts B newId initId bmB) (hT : ∀ X : String, bm.contains (.type X) = bmB.contains (.type X)) {rest : List Value} {kw : List (Str × Value)}
    (hC : h.get? C = some (excClassObj nm q C N bs bm hdct sn sub ab col dd k0 k1 k2 k3 k5 newId))
    (hq : R (.ok (.ret (.ref (h.objs.size + 1)))) ⟨(h.push { cls := .type "tuple", data := .seq rest.toArray }).push
      { cls := .ref C, data := .fields #[.ref h.objs.size, .none, .none, .none, .bool false, .none] }, g, d, t, os⟩) (hrest : rest.length ≤ sizeLine) :
    codeAny (model prog w) A (.builtin newId ⟨.ref C :: rest, kw⟩) R ⟨h, g, d, t, os⟩ := by
  have hends := F.ends
  have hcB : (Value.ref C :: bm).contains (.type B) = true := by rw [List.contains_cons, hT, F.hasB, Bool.or_true]
  have hcA : (Value.ref C :: bm).contains (.type "AttributeError") = false := by rw [List.contains_cons, hT, F.noAttr]; rfl
  have hcN : (Value.ref C :: bm).contains (.type "NameError") = false := by rw [List.contains_cons, hT, F.noName]; rfl
  refine codeAny_builtinAt F.entry ?_
  unfold Builtin.«BaseException.__new__»
  refine wpAt_bind ?_
  show wpAt _ _ _ (stack >>= _) _ _ _
  refine wpAt_bind (wpAt_stack fun p below => wpAt_of_wpAny ?_)
  wp_walk
  refine wpAt_of_wpAny ?_
  rw [F.owner]
  repeat (first | with_reducible refine wpAny_madeHere_exc F.canon hC ?_ | with_reducible refine wpAny_loadPart_at hC ?_ | (with_reducible refine wpAny_isSubtype_exc hC ?_; first | rw [hcB] | rw [hcA] | rw [hcN]) | wp_step)
  show R _ _
  rw [Heap.size_push]
  exact hq
theorem type_call_ownK (F : ExcBaseFacts B newId initId bmB) (hT : ∀ X : String, bm.contains (.type X) = bmB.contains (.type X)) {rest : List Value} {kw : List (Str × Value)} {fI : Addr} {Q : Fin → Shared → Prop}
    (hC : h.get? C = some (excClassObj nm q C N bs bm hdct sn sub ab col dd k0 k1 k2 k3 k5 newId))
    (hi : W.Looks (model prog w) h (typeLookup (.ref C) "__init__") (some (.ref fI))) (hb : ∀ self, W.Looks (model prog w) h (bindSpecial (.ref fI) self) (.ref fI, [self])) (hrest : rest.length ≤ sizeLine)
    (hq : codeAny (model prog w) A (.call (.ref fI) ⟨.ref (h.objs.size + 1) :: rest, kw⟩)
      (fun r s' => match r with | .ok (.ret v) => v = .none ∧ Q (.done (.ret (.ref (h.objs.size + 1)))) s' | .ok _ => False | .error e => E e s')
      ⟨(h.push (W.kdv_tup rest)).push (excO C h.objs.size), g, d, t, os⟩) :
    wpAny (model prog w) A (Builtin.«type.__call__» ⟨.ref C :: rest, kw⟩) Q E ⟨h, g, d, t, os⟩ := by
  repeat (first | with_reducible refine wpAny_loadPart_at hC ?_ | with_reducible refine wpAny_madeBy_exc hC ?_ | wp_step)
  refine codeAny_call_builtin_code (Code.quiet_builtin _ F.quiet) (check_new_ownK F hT hC ?_)
  refine new_ownK F hT hC ?_ hrest
  show wpAny _ _ _ _ _ _
  have k : ∀ b o, h.get? b = some o → ((h.push (W.kdv_tup rest)).push (excO C h.objs.size)).get? b = some o := fun b o e => Heap.get?_push_of_some _ (Heap.get?_push_of_some _ e)
  have hC₁ := k _ _ hC
  have hget : ((h.push (W.kdv_tup rest)).push (excO C h.objs.size)).get? (h.objs.size + 1) = some (excO C h.objs.size) := by heap_get
  have hcC : (Value.ref C :: bm).contains (.ref C) = true := by simp
  have i1 := hi.keeps k
  have b1 := (hb (.ref (h.objs.size + 1))).keeps k
  unfold isInstance
  repeat (first | with_reducible refine wpAny_loadPart_at hget ?_ | (with_reducible refine wpAny_isSubtype_exc hC₁ ?_; rw [hcC]) | wp_step)
  show wpAny _ _ (typeLookup (.ref C) _) _ _ _
  refine i1.at ?_
  refine wpAny_holding (wpAny_bind (b1.at ?_))
  refine wpAny_bind (wpAny_call (codeAny_mono hq fun r s' z => ?_))
  rcases r with e | (v | _ | _ | _) <;> first | exact z | exact z.elim | skip
  obtain ⟨rfl, z⟩ := z
  first
    | exact wpAny_pure (wpAny_pure z)
    | (wp_walk; exact z)
theorem call_ownK (F : ExcBaseFacts B newId initId bmB) (hT : ∀ X : String, bm.contains (.type X) = bmB.contains (.type X)) {rest : List Value} {kw : List (Str × Value)} {fI : Addr}
    (hC : h.get? C = some (excClassObj nm q C N bs bm hdct sn sub ab col dd k0 k1 k2 k3 k5 newId))
    (hi : W.Looks (model prog w) h (typeLookup (.ref C) "__init__") (some (.ref fI))) (hb : ∀ self, W.Looks (model prog w) h (bindSpecial (.ref fI) self) (.ref fI, [self])) (hrest : rest.length ≤ sizeLine)
    (hq : codeAny (model prog w) (A.under (.builtin "type.__call__" ⟨.ref C :: rest, kw⟩)) (.call (.ref fI) ⟨.ref (h.objs.size + 1) :: rest, kw⟩) (W.InitBack (h.objs.size + 1) R)
      ⟨(h.push (W.kdv_tup rest)).push (excO C h.objs.size), g, d, t, os⟩) :
    codeAny (model prog w) A (.call (.ref C) ⟨rest, kw⟩) R ⟨h, g, d, t, os⟩ := by
  have f1 := tc_lookup
  have f2 := tc_bind (.ref C)
  have hTy : (⟨h, g, d, t, os⟩ : Shared).TypeIs (.ref C) "type" := ⟨_, hC, rfl⟩
  refine codeAny_of_tree ?_
  show wpAny _ _ (callAny (.ref C) _) _ _ _
  repeat (any_goals (first | assumption | with_reducible refine wpAny_loadPart_at hC ?_ | wp_step))
  refine ⟨rfl, ?_⟩
  refine codeAny_call_builtin_at (Code.quiet_builtin _ (by decide +kernel)) entry_typeCall (wpAny_check_type_call_sub hC (type_call_ownK F hT hC hi hb hrest ?_))
  refine codeAny_mono hq fun r s' z => ?_
  rcases r with e | (v | _ | _ | _) <;> exact z
end
end PySem.HandSPX
namespace Bk
open PySem PySem.Spec PyProof.Rows L2 Evl
section
variable {X : Cx} {C fI : Addr} {fd : FuncData} {f x : Str} {st : Stmt} {e : Expr} {te : TE} {p pos : Pos} {kws : List Keyword}
/-- C(f = e) of an own error class with an __init__(self, f) -/
theorem pmk_oexK {CX : CXT} {k : Nat} {sp : Sp} (T : OexC X.K C) (iC : PySem.W.findIn X.K (.ref C) "__init__" = some (some (.ref fI))) (tI : PySem.W.typeIn X.K (.ref fI) = some (.type "function"))
    (F1 : FnOk X.prog X.w X.K X.mg X.base CX k fI fd ["self", f] sp) (hr : Room (k + 1) X.A) (hb : ∀ (s : Shared) (u v : Value), X.K.In s.heap → BindsTo s fd ⟨[u], [(f, v)]⟩ [(("self" : Str), u), (f, v)]) (hx : Passes CX X (fun _ _ _ => False)) (hg : Gl X x) (hm : X.mg x = some (.ref C)) (hkw : PK X kws (tCons te tNil))
    (hks : (backToKw pos (keywordEach kws X.env)).filterMap (·.1) = [f] := by rfl) (hall : (backToKw pos (keywordEach kws X.env)).all (·.1.isSome) = true := by rfl)
    (hdb : (x == ("__debug__" : Str)) = false := by decide) (hpl : ((backTo pos (starEach [] X.env)).any (·.1) || (backToKw pos (keywordEach kws X.env)).any (·.1.isNone)) = false := by rfl) :
    PMk X (.Call (.Name x p) [] kws pos) (tMkO C sp [] (tCons te tNil)) := by
  intro pins s σ H Q I h
  obtain ⟨nm, q, N, bs, bm, sn, sub, ab, col, dd, k0, k1, k2, k3, k5, hC, hbm⟩ := T.cls
  refine wpAny_Call_Name_kw (ld_glob I hg hm ?_ hdb)
  refine PySem.W.callWith_KW0 (h₀ := X.base) I.ok.mod.kin T.kC hall (thn (hkw.run pos pins s σ H _ I h) fun us s1 ⟨vs, H1, I1, r1, hz, q1⟩ => ⟨I1.kIn, ?_⟩) hpl
  rw [hks]
  obtain ⟨hp, g, dr, tk, os⟩ := s1
  have hsz : hp.objs.size ≤ hp.objs.size + 1 := Nat.le_succ _
  have hn : H1 (hp.objs.size + 1) = none := I1.hok.fresh hsz
  have hq := q1 (hp.objs.size + 1) hn
  have kk : ∀ b o, hp.get? b = some o → ((hp.push (PySem.W.kdv_tup [])).push (PySem.HandSPX.excO C hp.objs.size)).get? b = some o := fun b o e => Heap.get?_push_of_some _ (Heap.get?_push_of_some _ e)
  have hget : ((hp.push (PySem.W.kdv_tup [])).push (PySem.HandSPX.excO C hp.objs.size)).get? (hp.objs.size + 1) = some (PySem.HandSPX.excO C hp.objs.size) := by heap_get
  have I2 : Inv X pins σ (upd H1 (hp.objs.size + 1) (exo (hp.objs.size + 1) C none)) ⟨(hp.push (PySem.W.kdv_tup [])).push (PySem.HandSPX.excO C hp.objs.size), g, dr, tk, os⟩ :=
    I1.laid (t' := tk) (a := hp.objs.size + 1) (o := exo (hp.objs.size + 1) C none) (h' := (hp.push (PySem.W.kdv_tup [])).push (PySem.HandSPX.excO C hp.objs.size)) kk hsz (exo_ok hget)
  have r2 : Vals (V.ref (hp.objs.size + 1) :: (vs ++ [])) (Value.ref (hp.objs.size + 1) :: us) := .cons rfl (by rw [List.append_nil]; exact r1)
  have hl : (Value.ref (hp.objs.size + 1) :: us).length = (["self", f] : List Str).length := by
    have e := r2.length
    rw [F1.len _ _ _ _ hq] at e
    exact e.symm
  obtain ⟨u, rfl⟩ : ∃ u, us = [u] := by
    match us, hl with
    | [u], _ => exact ⟨u, rfl⟩
  refine wpAny_call (PySem.HandSPX.call_ownK (kw := [(f, u)]) F.excBase_ValueError (fun Y => PySem.HandSPX.refsVE_contains Y bm hbm) (I1.kIn _ _ hC) (PySem.W.looks_findIn I1.kIn iC) (fun self => PySem.W.bind_fn I1.kIn self tI) (Nat.zero_le _)
    (codeAny_mono (F1.run _ X.stack _ _ ⟨[Value.ref (hp.objs.size + 1)], [(f, u)]⟩ [Value.ref (hp.objs.size + 1), u] _ _ (fun _ _ _ => False) (hr.make C [] [(f, u)]) (I2.env0.make C [] [(f, u)]) (hb _ _ _ I2.kIn) r2 hq) fun r s' hq' => ?_))
  cases r with
  | error er => exact hx pins σ _ _ er s' I2 hq'
  | ok fl =>
    cases fl with
    | ret u =>
      obtain ⟨v, H2, os2, bare2, un2, hok2, rv, ev, d, fs, ea, ed, hd1, q2⟩ := hq'
      subst ev
      obtain ⟨h2, g2, d2, t2, os'⟩ := s'
      exact ⟨rv, mk_end (raises_own T.exC T.tyC) I1 hsz kk un2 hok2 os2 bare2 ea ed hd1 q2⟩
    | next => exact False.elim hq'
    | brk => exact False.elim hq'
    | cont => exact False.elim hq'
theorem pmk_supK (S : SupC X.prog X.K X.mg C fI fd f st) (hb : ∀ (s : Shared) (u v : Value), X.K.In s.heap → BindsTo s fd ⟨[u], [(f, v)]⟩ [(("self" : Str), u), (f, v)]) (hr : Room 2 X.A) (hg : Gl X x) (hm : X.mg x = some (.ref C)) (hkw : PK X kws (tCons te tNil))
    (hks : (backToKw pos (keywordEach kws X.env)).filterMap (·.1) = [f] := by rfl) (hall : (backToKw pos (keywordEach kws X.env)).all (·.1.isSome) = true := by rfl)
    (hdb : (x == ("__debug__" : Str)) = false := by decide) (hpl : ((backTo pos (starEach [] X.env)).any (·.1) || (backToKw pos (keywordEach kws X.env)).any (·.1.isNone)) = false := by rfl) :
    PMk X (.Call (.Name x p) [] kws pos) (tMkO C (sp_sup C f) [] (tCons te tNil)) :=
  pmk_oexK (CX := CX0) (k := 1) S.ox S.iC S.tI (sup_ok S) hr hb (fun _ _ _ _ _ _ _ z => z.elim) hg hm hkw hks hall hdb hpl
end
/-! ### repr of any data, texts too -/
def rReprA (K : PySem.W.Frag) : List V → Hp → VK → Prop := fun xs H Q => ∃ (x : V) (d : PyData), xs = [x] ∧ Dp K H x d ∧ Sho d ∧ Q (.str d.shown) H
theorem call_reprA {X : Cx} {K : PySem.W.Frag} (hK : X.K = K) (hg : X.A.guards = some []) (hu : X.A.units + 64 < cLine) : CallR X (.builtin "repr") (rReprA K) := by
  intro pins s σ H xs us Q I r h
  obtain ⟨x, d, rfl, hd, hs, q⟩ := h
  by_cases no : ∀ y, d ≠ .str y
  · exact call_reprX hK hg hu pins s σ H _ us Q I r ⟨x, d, rfl, hd, hs, no, q⟩
  · obtain ⟨y, rfl⟩ : ∃ y, d = .str y := Classical.byContradiction fun z => no fun y e => z ⟨y, e⟩
    obtain ⟨u, rfl, ru⟩ := vals1 r
    cases hd
    obtain ⟨t, rfl⟩ := ru
    exact PySem.P.repr_of_str ⟨.str _, H, I.tok _, ⟨_, rfl⟩, q⟩ hs.2.2.2
theorem ev_reprA {K : PySem.W.Frag} {σ : L2.St} {H : Hp} {te : TE} {d : PyData} (h : EvD K te σ H d) (hs : Sho d) : Ev (tCB (rReprA K) (tCons te tNil)) σ H (.str d.shown) := fun H1 e Q q =>
  h H1 e _ fun v H2 e2 hd => ⟨v, d, rfl, hd, hs, q H2 e2⟩
/-- raise C(values), C an own error class without __init__ -/
theorem mk_own {C : Addr} {σ : L2.St} {H : Hp} {t : TA} {vs : List V} {Q : XK} (h : EvA t σ H vs) (l : vs.length ≤ 1000) (q : ∀ H1, Ex H H1 → Q (.ref C) none H1) : (fun σ H (Q : XK) => t σ H fun vs H1 => vs.length ≤ sizeLine ∧ Q (.ref C) none H1) σ H Q := h H (Ex.refl H) _ fun H1 e1 => ⟨sz_of (by omega), q H1 e1⟩
/-- what is known of a class and others -/
def Subs (K : PySem.W.Frag) (d : Addr) : List (Addr × Bool) → Prop
  | [] => True
  | (c, b) :: r => PySem.W.subIn K (.ref d) (.ref c) = some b ∧ Subs K d r
end Bk
/-! enumerate(zip(a, b), start=k) of two lists: the tuple that the zip gave out may be there still, or not -/
namespace PySem
open Sem (wp)
abbrev IsZ (h : Heap) (z TI TO : Addr) (f0 : Value) (f : Bool) : Prop :=
  h.get? z = some { cls := .type "zip", dict := none, data := .fields #[f0, .bool f, .bool false, .ref TI, .ref TO], slots := #[] }
section
variable {prog : Program} {w : World} {A : Around} {E : Value → Shared → Prop} {s : Shared}
theorem dead_load {a : Addr} {Q : Option Obj → Shared → Prop} (ho : s.heap.get? a = none) (h : Q none s) : wpAny (model prog w) A (loadIfAlive a) Q E s := by
  have h' : Q (s.heap.get? a) s := by rw [ho]; exact h
  exact fun _ _ _ => h'
/-- nothing was given out, or it has gone -/
def ZGone (h : Heap) (f0 : Value) : Prop := f0 = .none ∨ ∃ T : Addr, f0 = rawInt T ∧ h.get? T = none
theorem z_free {z TI TO : Addr} {f0 : Value} {f : Bool} {Q : Bool → Shared → Prop} (hz : IsZ s.heap z TI TO f0 f) (hg : ZGone s.heap f0) (h : Q true s) : wpAny (model prog w) A (Builtin.SmallTypes.ownedTupleIsFree (.ref z)) Q E s := by
  unfold Builtin.SmallTypes.ownedTupleIsFree
  rcases hg with rfl | ⟨T, rfl, hT⟩
  · exact wpAny_bind (wpAny_field hz rfl (x := .none) rfl (wpAny_pure h))
  · refine wpAny_bind (wpAny_field hz rfl (x := rawInt T) rfl ?_)
    show wpAny _ _ (loadIfAlive ((T : Int).toNat) >>= _) _ _ _
    rw [Int.toNat_natCast]
    refine wpAny_bind (dead_load hT ?_)
    simp only [Option.isNone_none, if_true]
    exact wpAny_pure h
theorem zg_next_item {z TI TO i1 i2 l1 l2 : Addr} {k1 k2 : Nat} {xs ys : Array Value} {x y a b f0 : Value} {f : Bool} {Q : Value → Shared → Prop} (D : ZipApart z TI TO i1 i2 l1 l2)
    (hz : IsZ s.heap z TI TO f0 f) (hg : ZGone s.heap f0) (hTI : IsPair s.heap TI (.ref i1) (.ref i2)) (hTO : IsPair s.heap TO a b)
    (h1 : s.heap.IsListIter i1 l1 k1) (h2 : s.heap.IsListIter i2 l2 k2) (hl1 : s.heap.IsList l1 xs) (hl2 : s.heap.IsList l2 ys) (hx : xs[k1]? = some x) (hy : ys[k2]? = some y)
    (hQ : ∀ h', IsZ h' z TI TO (rawInt s.heap.objs.size) false → IsPair h' TO x y → h'.IsListIter i1 l1 (k1 + 1) → h'.IsListIter i2 l2 (k2 + 1) → IsPair h' s.heap.objs.size x y → h'.objs.size = s.heap.objs.size + 1 →
      (∀ c o, c ≠ z → c ≠ TO → c ≠ i1 → c ≠ i2 → s.heap.get? c = some o → h'.get? c = some o) → Q (.ref s.heap.objs.size) { s with heap := h' }) :
    wpAny (model prog w) A (Builtin.«zip.__next__» ⟨[.ref z], []⟩) (fun fin s' => ∃ v, fin = .done (.ret v) ∧ Q v s') E s := by
  show wpAny _ _ (field (.ref z) 2 >>= _) _ _ _
  refine wpAny_bind (wpAny_field hz rfl (x := .bool false) rfl ?_)
  show wpAny _ _ (field (.ref z) 3 >>= _) _ _ _
  refine wpAny_bind (wpAny_field hz rfl (x := .ref TI) rfl ?_)
  refine wpAny_bind (wpAny_seqItems hTI rfl ?_)
  show wpAny _ _ (Builtin.SmallTypes.ownedTupleIsFree (.ref z) >>= _) _ _ _
  refine wpAny_bind (z_free hz hg ?_)
  simp only [if_true]
  refine wpAny_bind (wpAny_rule ?_)
  refine wpAny_bind (wpAny_field hz rfl (x := .ref TO) rfl ?_)
  refine wpAny_bind (wpAny_setField_rec hz (by simp) fun h₁ hz₁ hs₁ => ?_)
  replace hz₁ : IsZ h₁ z TI TO .ellipsis f := hz₁
  refine wpAny_bind ?_
  simp only [List.zipIdx_cons, List.zipIdx_nil, List.forIn_cons, List.forIn_nil]
  refine wpAny_bind (wpAny_bind (wpAny_onRaise ?_))
  show wpAny _ _ (Builtin.SmallTypes.nextOf (.ref i1) >>= _) _ _ _
  refine wpAny_bind (wpAny_nextOf_list_item (h1.extBut hs₁.extBut D.i1z) (hl1.extBut hs₁.extBut D.l1z) hx fun h₂ h1₂ hs₂ => wpAny_pure ?_)
  have hTO₂ : IsPair h₂ TO a b := hs₂.extBut _ _ D.TOi1 (hs₁.extBut _ _ D.TOz hTO)
  refine wpAny_bind (wpAny_seqItems hTO₂ rfl ?_)
  refine wpAny_bind (wpAny_updateSeq_pair hTO₂ fun h₃ hTO₃ hs₃ => ?_)
  replace hTO₃ : IsPair h₃ TO x b := hTO₃
  refine wpAny_bind (wpAny_letGo (wpAny_pure ?_))
  refine wpAny_bind (wpAny_bind (wpAny_onRaise ?_))
  show wpAny _ _ (Builtin.SmallTypes.nextOf (.ref i2) >>= _) _ _ _
  refine wpAny_bind (wpAny_nextOf_list_item (((h2.extBut hs₁.extBut D.i2z).extBut hs₂.extBut D.i12.symm).extBut hs₃.extBut D.TOi2.symm)
    (((hl2.extBut hs₁.extBut D.l2z).extBut hs₂.extBut D.l2i1).extBut hs₃.extBut D.l2TO) hy fun h₄ h2₄ hs₄ => wpAny_pure ?_)
  have hTO₄ : IsPair h₄ TO x b := hs₄.extBut _ _ D.TOi2 hTO₃
  refine wpAny_bind (wpAny_seqItems hTO₄ rfl ?_)
  refine wpAny_bind (wpAny_updateSeq_pair hTO₄ fun h₅ hTO₅ hs₅ => ?_)
  replace hTO₅ : IsPair h₅ TO x y := hTO₅
  refine wpAny_bind (wpAny_letGo (wpAny_pure (wpAny_pure ?_)))
  refine wpAny_bind (wpAny_seqItems hTO₅ rfl ?_)
  refine wpAny_bind (wpAny_newTuple ?_)
  have hsz : h₅.objs.size = s.heap.objs.size := by rw [hs₅.1, hs₄.1, hs₃.1, hs₂.1, hs₁.1]
  have hz₅ : IsZ h₅ z TI TO .ellipsis f := hs₅.extBut _ _ D.TOz.symm (hs₄.extBut _ _ D.i2z.symm (hs₃.extBut _ _ D.TOz.symm (hs₂.extBut _ _ D.i1z.symm hz₁)))
  have hk₅ : ∀ c o, c ≠ z → c ≠ TO → c ≠ i1 → c ≠ i2 → s.heap.get? c = some o → h₅.get? c = some o := fun c o c1 c2 c3 c4 e =>
    hs₅.extBut _ _ c2 (hs₄.extBut _ _ c4 (hs₃.extBut _ _ c2 (hs₂.extBut _ _ c3 (hs₁.extBut _ _ c1 e))))
  have h1₅ : h₅.IsListIter i1 l1 (k1 + 1) := ((h1₂.extBut hs₃.extBut D.TOi1.symm).extBut hs₄.extBut D.i12).extBut hs₅.extBut D.TOi1.symm
  have h2₅ : h₅.IsListIter i2 l2 (k2 + 1) := h2₄.extBut hs₅.extBut D.TOi2.symm
  have hzlt : z < h₅.objs.size := Heap.lt_size hz₅
  show wpAny _ _ (Builtin.SmallTypes.ownedTupleHandOut (.ref z) (.ref h₅.objs.size) >>= _) _ _ _
  refine wpAny_bind ?_
  unfold Builtin.SmallTypes.ownedTupleHandOut
  have hz₆ : IsZ (h₅.push { cls := .type "tuple", data := .seq #[x, y] }) z TI TO .ellipsis f := Heap.get?_push_of_some _ hz₅
  refine wpAny_bind (wpAny_setField_rec hz₆ (by simp) fun h₇ hz₇ hs₇ => ?_)
  replace hz₇ : IsZ h₇ z TI TO (rawInt h₅.objs.size) f := hz₇
  refine wpAny_setField_rec hz₇ (by simp) fun h₈ hz₈ hs₈ => ?_
  replace hz₈ : IsZ h₈ z TI TO (rawInt h₅.objs.size) false := hz₈
  have up : ∀ c o, c ≠ z → h₅.get? c = some o → h₈.get? c = some o := fun c o c1 e => hs₈.extBut _ _ c1 (hs₇.extBut _ _ c1 (Heap.get?_push_of_some _ e))
  have hT₈ : IsPair h₈ h₅.objs.size x y := hs₈.extBut _ _ (Nat.ne_of_gt hzlt) (hs₇.extBut _ _ (Nat.ne_of_gt hzlt) (Heap.get?_push_size _ rfl))
  have hz8 : h₈.objs.size = h₅.objs.size + 1 := by rw [hs₈.1, hs₇.1, Heap.size_push]
  rw [hsz] at hz₈ hT₈ hz8
  refine wpAny_pure ⟨_, rfl, ?_⟩
  show Q (.ref h₅.objs.size) _
  rw [hsz]
  exact hQ h₈ hz₈ (up _ _ D.TOz hTO₅) (h1₅.at fun o e => up _ o D.i1z e) (h2₅.at fun o e => up _ o D.i2z e) hT₈ hz8 fun c o c1 c2 c3 c4 e => up c o c1 (hk₅ c o c1 c2 c3 c4 e)
theorem zg_next_end {z TI TO i1 i2 l1 l2 : Addr} {k1 k2 : Nat} {xs ys : Array Value} {a b f0 : Value} {f : Bool} {Q : Fin → Shared → Prop} (hh : A.handled = none) (D : ZipApart z TI TO i1 i2 l1 l2)
    (hz : IsZ s.heap z TI TO f0 f) (hg : ZGone s.heap f0) (hTI : IsPair s.heap TI (.ref i1) (.ref i2)) (hTO : IsPair s.heap TO a b)
    (h1 : s.heap.IsListIter i1 l1 k1) (h2 : s.heap.IsListIter i2 l2 k2) (hl1 : s.heap.IsList l1 xs) (hl2 : s.heap.IsList l2 ys) (hend : xs[k1]? = none ∨ ys[k2]? = none)
    (hE : ∀ h' e, (∀ c o, c ≠ z → c ≠ TO → c ≠ i1 → c ≠ i2 → s.heap.get? c = some o → h'.get? c = some o) → (∃ o, h'.get? e = some o ∧ o.cls = .type "StopIteration") → E (.ref e) { s with heap := h' }) :
    wpAny (model prog w) A (Builtin.«zip.__next__» ⟨[.ref z], []⟩) Q E s := by
  show wpAny _ _ (field (.ref z) 2 >>= _) _ _ _
  refine wpAny_bind (wpAny_field hz rfl (x := .bool false) rfl ?_)
  show wpAny _ _ (field (.ref z) 3 >>= _) _ _ _
  refine wpAny_bind (wpAny_field hz rfl (x := .ref TI) rfl ?_)
  refine wpAny_bind (wpAny_seqItems hTI rfl ?_)
  show wpAny _ _ (Builtin.SmallTypes.ownedTupleIsFree (.ref z) >>= _) _ _ _
  refine wpAny_bind (z_free hz hg ?_)
  simp only [if_true]
  refine wpAny_bind (wpAny_rule ?_)
  refine wpAny_bind (wpAny_field hz rfl (x := .ref TO) rfl ?_)
  refine wpAny_bind (wpAny_setField_rec hz (by simp) fun h₁ hz₁ hs₁ => ?_)
  replace hz₁ : IsZ h₁ z TI TO .ellipsis f := hz₁
  refine wpAny_bind ?_
  simp only [List.zipIdx_cons, List.zipIdx_nil, List.forIn_cons, List.forIn_nil]
  refine wpAny_bind (wpAny_bind (wpAny_onRaise ?_))
  show wpAny _ _ (Builtin.SmallTypes.nextOf (.ref i1) >>= _) _ _ _
  cases hx : xs[k1]? with
  | none =>
    refine wpAny_bind (wpAny_nextOf_list_end hh (h1.extBut hs₁.extBut D.i1z) (hl1.extBut hs₁.extBut D.l1z) hx fun h₂ e hs₂ he => ?_)
    obtain ⟨oe, hoe, hce⟩ := he
    have hz₂ : IsZ h₂ z TI TO .ellipsis f := hs₂ _ _ D.i1z.symm hz₁
    have hez : e ≠ z := fun x => by subst x; rw [hz₂] at hoe; cases hoe; simp at hce
    refine wpAny_setField_rec hz₂ (by simp) fun h₃ _ hs₃ => hE h₃ e (fun c o c1 _ c3 _ x => hs₃.extBut _ _ c1 (hs₂ _ _ c3 (hs₁.extBut _ _ c1 x))) ⟨oe, hs₃.extBut _ _ hez hoe, hce⟩
  | some x =>
    have hy : ys[k2]? = none := by rcases hend with h | h; rw [hx] at h; cases h; exact h
    refine wpAny_bind (wpAny_nextOf_list_item (h1.extBut hs₁.extBut D.i1z) (hl1.extBut hs₁.extBut D.l1z) hx fun h₂ h1₂ hs₂ => wpAny_pure ?_)
    have hTO₂ : IsPair h₂ TO a b := hs₂.extBut _ _ D.TOi1 (hs₁.extBut _ _ D.TOz hTO)
    refine wpAny_bind (wpAny_seqItems hTO₂ rfl ?_)
    refine wpAny_bind (wpAny_updateSeq_pair hTO₂ fun h₃ hTO₃ hs₃ => ?_)
    refine wpAny_bind (wpAny_letGo (wpAny_pure ?_))
    refine wpAny_bind (wpAny_bind (wpAny_onRaise ?_))
    show wpAny _ _ (Builtin.SmallTypes.nextOf (.ref i2) >>= _) _ _ _
    refine wpAny_bind (wpAny_nextOf_list_end hh (((h2.extBut hs₁.extBut D.i2z).extBut hs₂.extBut D.i12.symm).extBut hs₃.extBut D.TOi2.symm)
      (((hl2.extBut hs₁.extBut D.l2z).extBut hs₂.extBut D.l2i1).extBut hs₃.extBut D.l2TO) hy fun h₄ e hs₄ he => ?_)
    obtain ⟨oe, hoe, hce⟩ := he
    have hz₄ : IsZ h₄ z TI TO .ellipsis f := hs₄ _ _ D.i2z.symm (hs₃.extBut _ _ D.TOz.symm (hs₂.extBut _ _ D.i1z.symm hz₁))
    have hez : e ≠ z := fun x => by subst x; rw [hz₄] at hoe; cases hoe; simp at hce
    refine wpAny_setField_rec hz₄ (by simp) fun h₅ _ hs₅ => hE h₅ e (fun c o c1 c2 c3 c4 x => hs₅.extBut _ _ c1 (hs₄ _ _ c4 (hs₃.extBut _ _ c2 (hs₂.extBut _ _ c3 (hs₁.extBut _ _ c1 x))))) ⟨oe, hs₅.extBut _ _ hez hoe, hce⟩
/-- the cells of a zip of two lists that stands at k -/
def ZAt (h : Heap) (z TI TO i1 i2 l1 l2 : Addr) (k : Nat) : Prop := (∃ (f0 : Value) (f : Bool), IsZ h z TI TO f0 f ∧ (f0 = .none ∨ ∃ T : Addr, f0 = rawInt T)) ∧ IsPair h TI (.ref i1) (.ref i2) ∧ (∃ a b, IsPair h TO a b) ∧ h.IsListIter i1 l1 k ∧ h.IsListIter i2 l2 k
/-- a turn of the zip, whatever became of the tuple before -/
theorem zip_any_item {z TI TO i1 i2 l1 l2 : Addr} {k : Nat} {xs ys : Array Value} {x y : Value} {Q : Value → Shared → Prop} (D : ZipApart z TI TO i1 i2 l1 l2)
    (hz : ZAt s.heap z TI TO i1 i2 l1 l2 k) (hl1 : s.heap.IsList l1 xs) (hl2 : s.heap.IsList l2 ys) (hx : xs[k]? = some x) (hy : ys[k]? = some y)
    (hQ : ∀ h', ZAt h' z TI TO i1 i2 l1 l2 (k + 1) → IsPair h' s.heap.objs.size x y → h'.objs.size = s.heap.objs.size + 1 →
      (∀ c o, c ≠ z → c ≠ TO → c ≠ i1 → c ≠ i2 → s.heap.get? c = some o → h'.get? c = some o) → Q (.ref s.heap.objs.size) { s with heap := h' }) :
    wpAny (model prog w) A (Builtin.«zip.__next__» ⟨[.ref z], []⟩) (fun fin s' => ∃ v, fin = .done (.ret v) ∧ Q v s') E s := by
  obtain ⟨⟨f0, f, hz, hf⟩, hTI, ⟨a, b, hTO⟩, h1, h2⟩ := hz
  have free : ZGone s.heap f0 → wpAny (model prog w) A (Builtin.«zip.__next__» ⟨[.ref z], []⟩) (fun fin s' => ∃ v, fin = .done (.ret v) ∧ Q v s') E s := fun hg =>
    zg_next_item D hz hg hTI hTO h1 h2 hl1 hl2 hx hy fun h' a1 a2 a3 a4 a5 a6 a7 => hQ h' ⟨⟨_, _, a1, .inr ⟨_, rfl⟩⟩, a7 _ _ D.TIz D.TITO D.TIi1 D.TIi2 hTI, ⟨_, _, a2⟩, a3, a4⟩ a5 a6 a7
  rcases hf with rfl | ⟨T, rfl⟩
  · exact free (.inl rfl)
  · cases hT : s.heap.get? T with
    | none => exact free (.inr ⟨T, rfl, hT⟩)
    | some oT =>
      exact zip_next_item_held D hz hT hTI h1 h2 hl1 hl2 hx hy fun h' a1 a2 a3 a4 a5 a6 => hQ h' ⟨⟨_, _, a1, .inr ⟨_, rfl⟩⟩, a6 _ _ D.TIz D.TIi1 D.TIi2 hTI, ⟨_, _, a6 _ _ D.TOz D.TOi1 D.TOi2 hTO⟩, a2, a3⟩ a4 a5 fun c o c1 _ c3 c4 e => a6 c o c1 c3 c4 e
theorem zip_any_end {z TI TO i1 i2 l1 l2 : Addr} {k : Nat} {xs ys : Array Value} {Q : Fin → Shared → Prop} (hh : A.handled = none) (D : ZipApart z TI TO i1 i2 l1 l2)
    (hz : ZAt s.heap z TI TO i1 i2 l1 l2 k) (hl1 : s.heap.IsList l1 xs) (hl2 : s.heap.IsList l2 ys) (hend : xs[k]? = none ∨ ys[k]? = none)
    (hE : ∀ h' e, (∀ c o, c ≠ z → c ≠ TO → c ≠ i1 → c ≠ i2 → s.heap.get? c = some o → h'.get? c = some o) → (∃ o, h'.get? e = some o ∧ o.cls = .type "StopIteration") → E (.ref e) { s with heap := h' }) :
    wpAny (model prog w) A (Builtin.«zip.__next__» ⟨[.ref z], []⟩) Q E s := by
  obtain ⟨⟨f0, f, hz, hf⟩, hTI, ⟨a, b, hTO⟩, h1, h2⟩ := hz
  rcases hf with rfl | ⟨T, rfl⟩
  · exact zg_next_end hh D hz (.inl rfl) hTI hTO h1 h2 hl1 hl2 hend hE
  · cases hT : s.heap.get? T with
    | none => exact zg_next_end hh D hz (.inr ⟨T, rfl, hT⟩) hTI hTO h1 h2 hl1 hl2 hend hE
    | some oT => exact zip_next_end_held hh D hz hT hTI h1 h2 hl1 hl2 hend fun h' e k' => hE h' e fun c o c1 _ c3 c4 x => k' c o c1 c3 c4 x
theorem ZAt.isz {h : Heap} {z TI TO i1 i2 l1 l2 : Addr} {k : Nat} (a : ZAt h z TI TO i1 i2 l1 l2 k) : ∃ o, h.get? z = some o ∧ o.cls = .type "zip" := by
  obtain ⟨⟨f0, f, hz, _⟩, _⟩ := a
  exact ⟨_, hz, rfl⟩
theorem ZAt.at {h h' : Heap} {z TI TO i1 i2 l1 l2 : Addr} {k : Nat} (a : ZAt h z TI TO i1 i2 l1 l2 k) (e : ∀ b ∈ [z, TI, TO, i1, i2], ∀ o, h.get? b = some o → h'.get? b = some o) : ZAt h' z TI TO i1 i2 l1 l2 k := by
  obtain ⟨⟨f0, f, hz, hf⟩, hTI, ⟨x, y, hTO⟩, h1, h2⟩ := a
  exact ⟨⟨f0, f, e z (by simp) _ hz, hf⟩, e TI (by simp) _ hTI, ⟨x, y, e TO (by simp) _ hTO⟩, h1.at fun o q => e i1 (by simp) o q, h2.at fun o q => e i2 (by simp) o q⟩
theorem nextOf_zip_item {z TI TO i1 i2 l1 l2 : Addr} {k : Nat} {xs ys : Array Value} {x y : Value} {Q : Value → Shared → Prop} (D : ZipApart z TI TO i1 i2 l1 l2)
    (hz : ZAt s.heap z TI TO i1 i2 l1 l2 k) (hl1 : s.heap.IsList l1 xs) (hl2 : s.heap.IsList l2 ys) (hx : xs[k]? = some x) (hy : ys[k]? = some y)
    (hQ : ∀ h', ZAt h' z TI TO i1 i2 l1 l2 (k + 1) → IsPair h' s.heap.objs.size x y → h'.objs.size = s.heap.objs.size + 1 →
      (∀ c o, c ≠ z → c ≠ TO → c ≠ i1 → c ≠ i2 → s.heap.get? c = some o → h'.get? c = some o) → Q (.ref s.heap.objs.size) { s with heap := h' }) :
    wpAny (model prog w) A (Builtin.SmallTypes.nextOf (.ref z)) Q E s := by
  have hT : s.TypeIs (.ref z) "zip" := hz.isz
  unfold Builtin.SmallTypes.nextOf
  exact wpAny_bind (wpAny_callSpecial?_slot (name := Str.ofString "__next__") hT F.slot_zip_next
    (wpAny_call_entry F.slot_zip_next hT F.entry_zip_next (zip_any_item D hz hl1 hl2 hx hy fun h1 a b c d => wpAny_pure (hQ h1 a b c d)) (F.args_zip_next_1 _)))
theorem nextOf_zip_end {z TI TO i1 i2 l1 l2 : Addr} {k : Nat} {xs ys : Array Value} {Q : Value → Shared → Prop} (hh : A.handled = none) (D : ZipApart z TI TO i1 i2 l1 l2)
    (hz : ZAt s.heap z TI TO i1 i2 l1 l2 k) (hl1 : s.heap.IsList l1 xs) (hl2 : s.heap.IsList l2 ys) (hend : xs[k]? = none ∨ ys[k]? = none)
    (hE : ∀ h' e, (∀ c o, c ≠ z → c ≠ TO → c ≠ i1 → c ≠ i2 → s.heap.get? c = some o → h'.get? c = some o) → (∃ o, h'.get? e = some o ∧ o.cls = .type "StopIteration") → E (.ref e) { s with heap := h' }) :
    wpAny (model prog w) A (Builtin.SmallTypes.nextOf (.ref z)) Q E s := by
  have hT : s.TypeIs (.ref z) "zip" := hz.isz
  unfold Builtin.SmallTypes.nextOf
  exact wpAny_bind (wpAny_callSpecial?_slot (name := Str.ofString "__next__") hT F.slot_zip_next
    (wpAny_call_entry F.slot_zip_next hT F.entry_zip_next (zip_any_end hh D hz hl1 hl2 hend hE) (F.args_zip_next_1 _)))
theorem enumZ_next_item {e z TI TO i1 i2 l1 l2 : Addr} {k : Nat} {c : Int} {xs ys : Array Value} {x y old : Value} {Q : Value → Shared → Prop} (D : ZipApart z TI TO i1 i2 l1 l2)
    (he : IsEnum s.heap e z c old) (hz : ZAt s.heap z TI TO i1 i2 l1 l2 k) (hl1 : s.heap.IsList l1 xs) (hl2 : s.heap.IsList l2 ys) (hx : xs[k]? = some x) (hy : ys[k]? = some y) (hne : e ∉ [z, TI, TO, i1, i2])
    (hQ : ∀ h' tk, IsEnumOut h' e z (c + 1) (.ref s.heap.objs.size) (s.heap.objs.size + 1) → ZAt h' z TI TO i1 i2 l1 l2 (k + 1) → IsPair h' s.heap.objs.size x y →
      h'.get? (s.heap.objs.size + 1) = some { cls := .type "tuple", data := .seq #[.int c tk, .ref s.heap.objs.size] } → h'.objs.size = s.heap.objs.size + 2 →
      (∀ b o, b ≠ e → b ≠ z → b ≠ TO → b ≠ i1 → b ≠ i2 → s.heap.get? b = some o → h'.get? b = some o) → Q (.ref (s.heap.objs.size + 1)) { s with heap := h', toks := tk + 1 }) :
    wpAny (model prog w) A (Builtin.«enumerate.__next__» ⟨[.ref e], []⟩) (fun fin s' => ∃ v, fin = .done (.ret v) ∧ Q v s') E s := by
  obtain ⟨hp, g, d, tk, os⟩ := s
  have ne1 : ∀ b ∈ [z, TI, TO, i1, i2], b ≠ e := fun b hb q => hne (q ▸ hb)
  show wpAny _ _ (field (.ref e) 2 >>= _) _ _ _
  refine wpAny_bind (wpAny_field he rfl (x := .ref z) rfl ?_)
  refine wpAny_bind (nextOf_zip_item (s := ⟨hp, g, d, tk, os⟩) D hz hl1 hl2 hx hy fun h₁ hz₁ hp₁ hs₁ hk₁ => ?_)
  replace hs₁ : h₁.objs.size = hp.objs.size + 1 := hs₁
  replace hk₁ : ∀ c o, c ≠ z → c ≠ TO → c ≠ i1 → c ≠ i2 → hp.get? c = some o → h₁.get? c = some o := hk₁
  replace hp₁ : IsPair h₁ hp.objs.size x y := hp₁
  have he₁ : IsEnum h₁ e z c old := hk₁ _ _ (fun q => ne1 z (by simp) q.symm) (fun q => ne1 TO (by simp) q.symm) (fun q => ne1 i1 (by simp) q.symm) (fun q => ne1 i2 (by simp) q.symm) he
  have hel : e < hp.objs.size := Heap.lt_size he
  show wpAny _ _ (field (.ref e) 3 >>= _) _ _ ⟨h₁, g, d, tk, os⟩
  refine wpAny_bind (wpAny_field he₁ rfl (x := rawInt c) rfl ?_)
  show wpAny _ _ (field (.ref e) 4 >>= _) _ _ ⟨h₁, g, d, tk, os⟩
  refine wpAny_bind (wpAny_field he₁ rfl (x := .none) rfl ?_)
  show wpAny _ _ (mkInt c >>= _) _ _ ⟨h₁, g, d, tk, os⟩
  refine wpAny_bind (wpAny_mkInt ?_)
  show wpAny _ _ (setField (.ref e) 3 (rawInt (c + 1)) >>= _) _ _ ⟨h₁, g, d, tk + 1, os⟩
  refine wpAny_bind (wpAny_setField_rec he₁ (by simp) fun h₂ he₂ hs₂ => ?_)
  replace hs₂ : Heap.SameBut e h₁ h₂ := hs₂
  replace he₂ : IsEnum h₂ e z (c + 1) old := he₂
  show wpAny _ _ (setField (.ref e) 4 .none >>= _) _ _ ⟨h₂, g, d, tk + 1, os⟩
  refine wpAny_bind (wpAny_setField_rec he₂ (by simp) fun h₃ he₃ hs₃ => ?_)
  replace hs₃ : Heap.SameBut e h₂ h₃ := hs₃
  replace he₃ : IsEnum h₃ e z (c + 1) old := he₃
  show wpAny _ _ (newTuple [.int c tk, .ref hp.objs.size] >>= _) _ _ ⟨h₃, g, d, tk + 1, os⟩
  refine wpAny_bind (wpAny_newTuple ?_)
  have he₄ : IsEnum (h₃.push { cls := .type "tuple", data := .seq #[.int c tk, .ref hp.objs.size] }) e z (c + 1) old := Heap.get?_push_of_some _ he₃
  generalize hh₄ : h₃.push { cls := .type "tuple", data := .seq #[.int c tk, .ref hp.objs.size] } = h₄ at he₄
  have hsz : h₃.objs.size = hp.objs.size + 1 := by rw [hs₃.1, hs₂.1, hs₁]
  have ht₄ : h₄.get? (hp.objs.size + 1) = some { cls := .type "tuple", data := .seq #[.int c tk, .ref hp.objs.size] } := by rw [← hh₄, ← hsz]; exact Heap.get?_push_size _ rfl
  have hz₄ : h₄.objs.size = hp.objs.size + 2 := by rw [← hh₄, Heap.size_push, hsz]
  have hk₄ : ∀ b o, b ≠ e → h₁.get? b = some o → h₄.get? b = some o := fun b o hbe hb => by
    rw [← hh₄]
    exact Heap.get?_push_of_some _ (hs₃.extBut b o hbe (hs₂.extBut b o hbe hb))
  show wpAny _ _ (Builtin.SmallTypes.ownedTupleIsFree (.ref e) >>= _) _ _ ⟨h₄, g, d, tk + 1, os⟩
  rw [hsz]
  clear hh₄ he₃ hs₃ he₂ hs₂ hsz h₃ h₂
  refine wpAny_bind ?_
  · unfold Builtin.SmallTypes.ownedTupleIsFree
    refine wpAny_bind (wpAny_field he₄ rfl (x := .none) rfl (wpAny_pure ?_))
    simp only [if_true]
    refine wpAny_bind (wpAny_rule ?_)
    refine wpAny_bind (wpAny_field he₄ rfl (x := old) rfl ?_)
    refine wpAny_bind (wpAny_setField_rec he₄ (by simp) fun h₅ he₅ hs₅ => ?_)
    replace hs₅ : Heap.SameBut e h₄ h₅ := hs₅
    replace he₅ : IsEnum h₅ e z (c + 1) (.ref hp.objs.size) := he₅
    show wpAny _ _ (Builtin.SmallTypes.ownedTupleHandOut (.ref e) (.ref (hp.objs.size + 1)) >>= _) _ _ ⟨h₅, g, d, tk + 1, os⟩
    refine wpAny_bind ?_
    · unfold Builtin.SmallTypes.ownedTupleHandOut
      refine wpAny_bind (wpAny_setField_rec he₅ (by simp) fun h₆ he₆ hs₆ => ?_)
      replace hs₆ : Heap.SameBut e h₅ h₆ := hs₆
      replace he₆ : IsEnumOut h₆ e z (c + 1) (.ref hp.objs.size) (hp.objs.size + 1) := he₆
      refine wpAny_setField_rec he₆ (by simp) fun h₇ he₇ hs₇ => ?_
      replace hs₇ : Heap.SameBut e h₆ h₇ := hs₇
      replace he₇ : IsEnumOut h₇ e z (c + 1) (.ref hp.objs.size) (hp.objs.size + 1) := he₇
      have hk₇ : ∀ b o, b ≠ e → h₄.get? b = some o → h₇.get? b = some o := fun b o hbe q => hs₇.extBut b o hbe (hs₆.extBut b o hbe (hs₅.extBut b o hbe q))
      refine wpAny_bind (wpAny_letGo (wpAny_pure ⟨_, rfl, hQ h₇ tk he₇ ?_ ?_ ?_ ?_ ?_⟩))
      · exact hz₁.at fun b hb o q => hk₇ b o (ne1 b hb) (hk₄ b o (ne1 b hb) q)
      · exact hk₇ _ _ (Nat.ne_of_gt hel) (hk₄ _ _ (Nat.ne_of_gt hel) hp₁)
      · exact hk₇ _ _ (fun q => absurd hel (by rw [← q]; exact Nat.not_lt.mpr (Nat.le_succ _))) ht₄
      · rw [hs₇.1, hs₆.1, hs₅.1, hz₄]
      · exact fun b o h1 h2 h3 h4 h5 q => hk₇ b o h1 (hk₄ b o h1 (hk₁ b o h2 h3 h4 h5 q))
theorem pyNext_enumZ_item {e z TI TO i1 i2 l1 l2 : Addr} {k : Nat} {c : Int} {xs ys : Array Value} {x y old : Value} {Q : Option Value → Shared → Prop} (D : ZipApart z TI TO i1 i2 l1 l2)
    (he : IsEnum s.heap e z c old) (hz : ZAt s.heap z TI TO i1 i2 l1 l2 k) (hl1 : s.heap.IsList l1 xs) (hl2 : s.heap.IsList l2 ys) (hx : xs[k]? = some x) (hy : ys[k]? = some y) (hne : e ∉ [z, TI, TO, i1, i2])
    (hQ : ∀ h' tk, IsEnumOut h' e z (c + 1) (.ref s.heap.objs.size) (s.heap.objs.size + 1) → ZAt h' z TI TO i1 i2 l1 l2 (k + 1) → IsPair h' s.heap.objs.size x y →
      h'.get? (s.heap.objs.size + 1) = some { cls := .type "tuple", data := .seq #[.int c tk, .ref s.heap.objs.size] } → h'.objs.size = s.heap.objs.size + 2 →
      (∀ b o, b ≠ e → b ≠ z → b ≠ TO → b ≠ i1 → b ≠ i2 → s.heap.get? b = some o → h'.get? b = some o) → Q (some (.ref (s.heap.objs.size + 1))) { s with heap := h', toks := tk + 1 }) :
    wpAny (model prog w) A (pyNext (.ref e)) Q E s := by
  have hT : s.TypeIs (.ref e) "enumerate" := ⟨_, he, rfl⟩
  unfold pyNext
  exact wpAny_bind (wpAny_attempt (wpAny_callSpecial?_slot (name := Str.ofString "__next__") hT F.slot_enumerate_next
    (wpAny_call_entry F.slot_enumerate_next hT F.entry_enumerate_next
      (enumZ_next_item D he hz hl1 hl2 hx hy hne fun h' tk a b c d k q => wpAny_pure (hQ h' tk a b c d k q)) (F.args_enumerate_next_1 _))))
theorem pyNext_enumZ_end {e z TI TO i1 i2 l1 l2 : Addr} {k : Nat} {c : Int} {xs ys : Array Value} {old : Value} {Q : Option Value → Shared → Prop} (hh : A.handled = none) (D : ZipApart z TI TO i1 i2 l1 l2)
    (he : IsEnum s.heap e z c old) (hz : ZAt s.heap z TI TO i1 i2 l1 l2 k) (hl1 : s.heap.IsList l1 xs) (hl2 : s.heap.IsList l2 ys) (hend : xs[k]? = none ∨ ys[k]? = none)
    (hQ : ∀ h', (∀ c o, c ≠ z → c ≠ TO → c ≠ i1 → c ≠ i2 → s.heap.get? c = some o → h'.get? c = some o) → Q none { s with heap := h' }) : wpAny (model prog w) A (pyNext (.ref e)) Q E s := by
  have hT : s.TypeIs (.ref e) "enumerate" := ⟨_, he, rfl⟩
  unfold pyNext
  refine wpAny_bind (wpAny_attempt (wpAny_callSpecial?_slot (name := Str.ofString "__next__") hT F.slot_enumerate_next
    (wpAny_call_entry F.slot_enumerate_next hT F.entry_enumerate_next ?_ (F.args_enumerate_next_1 _))))
  show wpAny _ _ (field (.ref e) 2 >>= _) _ _ _
  refine wpAny_bind (wpAny_field he rfl (x := .ref z) rfl ?_)
  refine wpAny_bind (nextOf_zip_end (by exact hh) D hz hl1 hl2 hend fun h' x hk hx' => ?_)
  obtain ⟨o, ho, hc⟩ := hx'
  refine wpAny_bind (wpAny_isInstance (T := "StopIteration") (b := true) ⟨o, ho, hc⟩ isSubtype_stop ?_)
  exact wpAny_pure (hQ _ hk)
end
end PySem

namespace PySem
open Sem (wp)
/-! the enumerate of a zip is made -/
namespace F
end F
set_option maxHeartbeats 4000000 in
theorem meets_enumerate_newZ {z TI TO : Addr} {f0 : Value} (k : Int) (t : Tok) (hfit : Builtin.SmallTypes.fitsIndex k = true) :
    Meets (Builtin.«enumerate.__new__» ⟨[.type "enumerate", .ref z], [(Str.ofString "start", .int k t)]⟩) (fun _ R s => IsZip s.heap z TI TO f0 ∧
      R (.ok (.ret (.ref s.heap.objs.size))) { s with heap := s.heap.push { cls := .type "enumerate", data := .fields #[.none, .bool false, .ref z, rawInt k, .none, .none] } }) :=
  .of_wp fun prog w A R s h => by
    obtain ⟨hp, g, d, tk, os⟩ := s; obtain ⟨h1, h⟩ := h
    have hsub := sub_enumerate
    have hnf : (!Builtin.SmallTypes.fitsIndex k) = false := by rw [hfit]; rfl
    have q1 : ∀ {A' : Around} {E : Value → Shared → Prop} {Q : Value → Shared → Prop}, Q (.ref z) ⟨hp, g, d, tk, os⟩ → wpAny (model prog w) A' (pyIter (.ref z)) Q E ⟨hp, g, d, tk, os⟩ :=
      fun q => wpAny_pyIter_zip (s := ⟨hp, g, d, tk, os⟩) h1 q
    have e1 : (Str.ofString "start" == ("start" : Str)) = true := by decide +kernel
    have e2 : (Str.ofString "start" != ("start" : Str)) = false := by decide +kernel
    have e3 : (Str.ofString "start" != ("iterable" : Str)) = true := by decide +kernel
    have e4 : (("start" : Str) == Str.ofString "start") = true := by decide +kernel
    have e5 : (("iterable" : Str) == Str.ofString "start") = false := by decide +kernel
    wp_walk using q1
    refine wpAny_stack_any fun st => wpAny_pure ?_
    split
    · rename_i c _ _ _ _ _
      cases (c == Value.type "enumerate")
      · wp_walk using q1
        exact ⟨_, rfl, h⟩
      · wp_walk using q1
        exact ⟨_, rfl, h⟩
    · wp_walk using q1
      exact ⟨_, rfl, h⟩
section
variable {prog : Program} {w : World} {A : Around} {E : Value → Shared → Prop} {s : Shared}
theorem enumZ_begins {z TI TO : Addr} {f0 : Value} {k : Int} {t : Tok} {Q : Value → Shared → Prop} (h1 : IsZip s.heap z TI TO f0) (hk0 : -(2 ^ 63) ≤ k) (hk1 : k < 2 ^ 63)
    (h : ∀ h', IsEnum h' s.heap.objs.size z k .none → h'.objs.size = s.heap.objs.size + 1 → (∀ b o, s.heap.get? b = some o → h'.get? b = some o) → Q (.ref s.heap.objs.size) { s with heap := h' }) :
    wpAny (model prog w) A (call (.type "enumerate") [.ref z] [(Str.ofString "start", .int k t)]) Q E s := by
  refine callType_newKw F.called_enumerate (by decide) (F.typeCall_enumerate_start _ _) (F.newCall_enumerate_start _ _) (fun obj => F.args_object_init_start obj _ _) F.entry_enumerate_new
    (meets_enumerate_newZ k t (fits_start hk0 hk1)) ⟨h1, ?_⟩
  show _ ∧ _
  have he : IsEnum (s.heap.push { cls := .type "enumerate", data := .fields #[.none, .bool false, .ref z, rawInt k, .none, .none] }) s.heap.objs.size z k .none := Heap.get?_push_size _ rfl
  exact ⟨⟨_, he, rfl⟩, h _ he (Heap.size_push ..) fun b o x => Heap.get?_push_of_some _ x⟩
end
end PySem
namespace Bk
open PySem PySem.Spec PyProof.Rows L2
/-- the lists at a and b, the items in new pairs, each in a new pair with its number, from c on -/
def Itez (K : PySem.W.Frag) (a b : Addr) (c : Int) : It :=
  ⟨fun i H => ∃ (xs ys : List V) (x y : V), SqL K H a xs ∧ SqL K H b ys ∧ xs[i]? = some x ∧ ys[i]? = some y,
   fun i H v H' => ∃ T P x y, v = .ref P ∧ H T = none ∧ H P = none ∧ P ≠ T ∧ H' = upd (upd H T (.tup [x, y])) P (.tup [.int (c + (i : Nat)), .ref T]) ∧ (∀ xs, SqL K H a xs → xs[i]? = some x) ∧ ∀ ys, SqL K H b ys → ys[i]? = some y,
   fun i H => ∃ xs ys : List V, SqL K H a xs ∧ SqL K H b ys ∧ (xs.length ≤ i ∨ ys.length ≤ i)⟩
theorem turn_enumZ {P : Program} {w : World} {K : PySem.W.Frag} {elts : List Expr} {kk : Nat} {tpos : Pos} {a b e z TI TO i1 i2 : Addr} (c : Int) (D : ZipApart z TI TO i1 i2 a b) (hne : e ∉ [z, TI, TO, i1, i2]) :
    Turn P w K (.Tuple elts kk tpos) (Itez K a b c) [e, z, TI, TO, i1, i2] e (fun i h => (∃ old, IsEnum h e z (c + ((i : Nat) : Int)) old) ∧ ZAt h z TI TO i1 i2 a b i) where
  mem := by simp
  obj := by
    intro i h st d hd
    obtain ⟨⟨old, he⟩, ⟨f0, f, hz, _⟩, hTI, ⟨x, y, hTO⟩, ⟨o1, e1, _, d1⟩, ⟨o2, e2, _, d2⟩⟩ := st
    have e' : d = e ∨ d = z ∨ d = TI ∨ d = TO ∨ d = i1 ∨ d = i2 := by simpa using hd
    rcases e' with q | q | q | q | q | q
    · rw [q]; exact ⟨_, he, fun v q => nomatch q⟩
    · rw [q]; exact ⟨_, hz, fun v q => nomatch q⟩
    · rw [q]; exact ⟨_, hTI, fun v q => nomatch q⟩
    · rw [q]; exact ⟨_, hTO, fun v q => nomatch q⟩
    · rw [q]; exact ⟨o1, e1, fun v q => by rw [d1] at q; cases q⟩
    · rw [q]; exact ⟨o2, e2, fun v q => by rw [d2] at q; cases q⟩
  keep := by
    intro i h h' st k
    obtain ⟨⟨old, he⟩, hz⟩ := st
    exact ⟨⟨old, k e (by simp) _ he⟩, hz.at fun b hb o q => k b (List.mem_cons_of_mem _ hb) o q⟩
  item := by
    intro X hP hw hK hc i pins s σ H E I hf st hg
    subst hP hw hK
    obtain ⟨⟨old, he⟩, hz⟩ := st
    obtain ⟨xs, ys, x, y, hqx, hqy, hx, hy⟩ := hg
    obtain ⟨its, rv, p, _⟩ := I.list hqx
    obtain ⟨its2, rv2, p2, _⟩ := I.list hqy
    obtain ⟨u, hu, ru⟩ := rv.get hx
    obtain ⟨u2, hu2, ru2⟩ := rv2.get hy
    have lt : ∀ d ∈ [e, z, TI, TO, i1, i2], d < s.heap.objs.size := by
      intro d hd
      have e' : d = e ∨ d = z ∨ d = TI ∨ d = TO ∨ d = i1 ∨ d = i2 := by simpa using hd
      obtain ⟨⟨f0, f, hz, _⟩, hTI, ⟨x, y, hTO⟩, ⟨o1, e1, _⟩, ⟨o2, e2, _⟩⟩ := hz
      rcases e' with q | q | q | q | q | q
      · rw [q]; exact Heap.lt_size he
      · rw [q]; exact Heap.lt_size hz
      · rw [q]; exact Heap.lt_size hTI
      · rw [q]; exact Heap.lt_size hTO
      · rw [q]; exact Heap.lt_size e1
      · rw [q]; exact Heap.lt_size e2
    refine pyNext_enumZ_item D he hz p.isList p2.isList (x := u) (y := u2) (by simpa using hu) (by simpa using hu2) hne fun h' tk ho z' hT hPr hsz hk => ?_
    refine ⟨_, rfl, wpAny_letOwnedTupleGo_enum (s := { s with heap := h', toks := tk + 1 }) ho fun h'' he' sb => ?_⟩
    replace sb : Heap.SameBut e h' h'' := sb
    have hel := lt e (by simp)
    have hT2 : h''.get? s.heap.objs.size = some { cls := .type "tuple", data := .seq #[u, u2] } := (sb.2 _ (Nat.ne_of_gt hel)).trans hT
    have hP2 : h''.get? (s.heap.objs.size + 1) = some { cls := .type "tuple", data := .seq #[.int (c + (i : Nat)) tk, .ref s.heap.objs.size] } := (sb.2 _ (Nat.ne_of_gt (Nat.lt_succ_of_lt hel))).trans hPr
    have gT : (s.heap.push { cls := .type "tuple", data := .seq #[u, u2] }).get? s.heap.objs.size = some { cls := .type "tuple", data := .seq #[u, u2] } := Heap.get?_push_size _ rfl
    have newT : ObjOk X.prog X.w (upd H s.heap.objs.size (.tup [x, y])) (s.heap.push { cls := .type "tuple", data := .seq #[u, u2] }) s.heap.objs.size (.tup [x, y]) :=
      ⟨by show 2 ≤ sizeLine; decide, [u, u2], .cons ru (.cons ru2 .nil), ⟨_, gT, rfl, _, rfl⟩⟩
    have I1 : Inv X pins σ (upd H s.heap.objs.size (.tup [x, y])) { s with heap := s.heap.push { cls := .type "tuple", data := .seq #[u, u2] }, toks := s.toks } :=
      I.turnedNew (t' := s.toks) (ch := []) (fun b o _ q => Heap.get?_push_of_some _ q) (fun b hb => nomatch hb) (Nat.le_refl _) newT
    have hf1 : ∀ d ∈ [e, z, TI, TO, i1, i2], FpOk X pins (upd H s.heap.objs.size (.tup [x, y])) d := fun d hd => by
      obtain ⟨f0, f1⟩ := hf d hd
      exact ⟨by rw [upd_ne (Nat.ne_of_lt (lt d hd))]; exact f0, f1⟩
    have newP : ObjOk X.prog X.w (upd (upd H s.heap.objs.size (.tup [x, y])) (s.heap.objs.size + 1) (.tup [.int (c + (i : Nat)), .ref s.heap.objs.size])) h'' (s.heap.objs.size + 1) (.tup [.int (c + (i : Nat)), .ref s.heap.objs.size]) :=
      ⟨by show 2 ≤ sizeLine; decide, [.int (c + (i : Nat)) tk, .ref s.heap.objs.size], .cons ⟨_, rfl⟩ (.cons rfl .nil), ⟨_, hP2, rfl, _, rfl⟩⟩
    have I2 := I1.turnedNew (t' := tk + 1) (h' := h'') (T := s.heap.objs.size + 1) (ch := [e, z, TI, TO, i1, i2]) (fun d o hd q => by
      by_cases hdT : d = s.heap.objs.size
      · rw [hdT] at q ⊢
        rw [gT] at q
        cases q
        exact hT2
      · have q' : s.heap.get? d = some o := by
          rw [← q]
          exact (Heap.get?_push_ne _ _ _ hdT).symm
        exact (sb.2 d (fun z => hd (by simp [z]))).trans (hk d o (fun z => hd (by simp [z])) (fun z => hd (by simp [z])) (fun z => hd (by simp [z])) (fun z => hd (by simp [z])) (fun z => hd (by simp [z])) q')) hf1 (by show (s.heap.push _).objs.size ≤ _; rw [Heap.size_push]; exact Nat.le_refl _) newP
    refine ⟨.ref (s.heap.objs.size + 1), _, I2, rfl, ⟨_, _, x, y, rfl, I.hok.fresh (Nat.le_refl _), I.hok.fresh (Nat.le_succ _), Nat.succ_ne_self _, rfl, fun l hl => by rw [I.list_inj hl hqx]; exact hx, fun l hl => by rw [I.list_inj hl hqy]; exact hy⟩, ⟨⟨.ref s.heap.objs.size, ?_⟩, ?_⟩, fun d hd => ?_⟩
    · have e1 : c + ((i + 1 : Nat) : Int) = c + (i : Int) + 1 := by omega
      rw [e1]
      exact he'
    · exact z'.at fun b hb o q => (sb.2 b (fun z => hne (z ▸ hb))).trans q
    · rw [upd_ne (Nat.ne_of_lt (Nat.lt_succ_of_lt (lt d hd))), upd_ne (Nat.ne_of_lt (lt d hd))]
      exact (hf d hd).1
  done := by
    intro X hP hw hK hc i pins s σ H E I hf st hg
    subst hP hw hK
    obtain ⟨⟨old, he⟩, hz⟩ := st
    obtain ⟨xs, ys, hqx, hqy, hend⟩ := hg
    obtain ⟨its, rv, p, _⟩ := I.list hqx
    obtain ⟨its2, rv2, p2, _⟩ := I.list hqy
    have l1 := rv.length
    have l2 := rv2.length
    have he' : its.toArray[i]? = none ∨ its2.toArray[i]? = none := by
      rcases hend with q | q
      · exact .inl (by simp; omega)
      · exact .inr (by simp; omega)
    exact pyNext_enumZ_end (I.ok.hd hc) D he hz p.isList p2.isList he' fun h' hk => ⟨rfl, I.turnedL (t' := s.toks) (ch := [e, z, TI, TO, i1, i2]) (fun d o hb q =>
      hk d o (fun q' => hb (by simp [q'])) (fun q' => hb (by simp [q'])) (fun q' => hb (by simp [q'])) (fun q' => hb (by simp [q'])) q) hf⟩
  self := fun A i s Q E st h => by
    obtain ⟨⟨_, he⟩, _⟩ := st
    exact wpAny_pyIter_enum he h

def iEnumZ (K : PySem.W.Frag) (ta : TA) (c : Int) : TI := fun σ H R => ta σ H fun vs H1 => ∃ a b xs ys, vs = [.ref a, .ref b] ∧ SqL K H1 a xs ∧ SqL K H1 b ys ∧ R (Itez K a b c) H1
theorem pi_enumZ {X : Cx} {e e2 : Expr} {ta : TA} {p pz qz pos tpos kpos cpos : Pos} {elts : List Expr} {kk j : Nat} {c : Int} (hg : Gl X "enumerate") (hm : X.mg "enumerate" = none) (hgz : Gl X "zip") (hmz : X.mg "zip" = none) (ha : PA X [e, e2] ta)
    (hs : starEach [Expr.Call (.Name "zip" pz) [e, e2] [] qz] X.env = (false, eval (.Call (.Name "zip" pz) [e, e2] [] qz) X.env) :: starEach [] X.env := by rfl) (hs2 : starEach [e, e2] X.env = (false, eval e X.env) :: starEach [e2] X.env := by rfl) (h0 : -(2 ^ 63) ≤ c := by decide) (h1 : c < 2 ^ 63 := by decide)
    (hall : (backToKw pos (keywordEach [⟨some "start", .Constant (.int c) j cpos, kpos⟩] X.env)).all (·.1.isSome) = true := by rfl)
    (hks : (backToKw pos (keywordEach [⟨some "start", .Constant (.int c) j cpos, kpos⟩] X.env)).filterMap (·.1) = [Str.ofString "start"] := by rfl)
    (hnone : (backToKw pos (keywordEach [⟨some "start", .Constant (.int c) j cpos, kpos⟩] X.env)).any (·.1.isNone) = false := by rfl)
    (hpl : (backTo pos (starEach [Expr.Call (.Name "zip" pz) [e, e2] [] qz] X.env)).any (·.1) = false := by rfl) (hpl2 : (backTo qz (starEach [e2] X.env)).any (·.1) = false := by rfl) :
    L2.PI X (.Tuple elts kk tpos) (.Call (.Name "enumerate" p) [.Call (.Name "zip" pz) [e, e2] [] qz] [⟨some "start", .Constant (.int c) j cpos, kpos⟩] pos) (iEnumZ X.K ta c) := by
  refine ⟨fun pins s σ H R I h => ?_⟩
  refine wpAny_Call_Name_kw (ld_blt I hg hm boot_enumerate ?_)
  refine callWith_clsKw ?_ hall hpl hnone (by rw [hs]; rfl)
  refine PyProof.Rows.args_cons ?_ hs
  refine Call_ (ld_blt I hgz hmz PyProof.Rows.boot_zip (PyProof.Rows.callWith_type1 (thn (ha.run qz pins s σ H _ I h) fun us s1 ⟨vs, H1, I1, r1, q1⟩ => ?_) hs2 hpl2))
  obtain ⟨a, b, xs, ys, ex, hqx, hqy, q⟩ := q1
  subst ex
  cases r1 with
  | cons r rr =>
    cases rr with
    | cons r' rr =>
      cases rr
      cases r
      cases r'
      obtain ⟨its, rv, p1, _⟩ := I1.list hqx
      obtain ⟨its2, rv2, p2, _⟩ := I1.list hqy
      refine call_zip_2 p1.isList p2.isList fun h' hz hTI hTO hi1 hi2 hsz hk => PyProof.Rows.args_nil ?_
      show wpAny _ _ (evalAll [(do let v ← eval (.Constant (.int c) j cpos) X.env; standAt pos; pure v)]) _ _ _
      refine PyProof.Rows.evalAll_cons (wpAny_bind (wpAny_Constant_int (wpAny_bind (wpAny_standAt (wpAny_pure (PyProof.Rows.evalAll_nil ?_))))))
      rw [hks]
      refine enumZ_begins (s := ⟨h', s1.gens, s1.drawn, s1.toks + 1, s1.os⟩) hz h0 h1 fun h'' he hsz2 hk2 => wpAny_pyIter_enum he ?_
      have hsz' : h'.objs.size = s1.heap.objs.size + 5 := hsz
      have I3 : Inv X pins σ H1 { s1 with heap := h'', toks := s1.toks + 1 } := I1.kept (t' := s1.toks + 1) fun d o e => hk2 d o (hk d o e)
      have D := PySem.W.ktu_apart s1.heap.objs.size a b p1.lt p2.lt
      refine ⟨h'.objs.size, [h'.objs.size, s1.heap.objs.size + 4, s1.heap.objs.size + 2, s1.heap.objs.size + 3, s1.heap.objs.size, s1.heap.objs.size + 1], _, _, H1, rfl, I3, turn_enumZ c D ?_, ⟨⟨.none, ?_⟩, ?_⟩, fun d hd => ?_, q⟩
      · rw [hsz']
        simp
      · rw [show c + ((0 : Nat) : Int) = c by omega]
        exact he
      · exact ⟨⟨.none, false, hk2 _ _ hz, .inl rfl⟩, hk2 _ _ hTI, ⟨_, _, hk2 _ _ hTO⟩, hi1.at fun o q => hk2 _ o q, hi2.at fun o q => hk2 _ o q⟩
      · have hle : s1.heap.objs.size ≤ d := by
          have hd' : d = h'.objs.size ∨ d = s1.heap.objs.size + 4 ∨ d = s1.heap.objs.size + 2 ∨ d = s1.heap.objs.size + 3 ∨ d = s1.heap.objs.size ∨ d = s1.heap.objs.size + 1 := by simpa using hd
          rw [hsz'] at hd'
          rcases hd' with z | z | z | z | z | z
          · rw [z]; exact Nat.le_add_right _ _
          · rw [z]; exact Nat.le_add_right _ _
          · rw [z]; exact Nat.le_add_right _ _
          · rw [z]; exact Nat.le_add_right _ _
          · rw [z]; exact Nat.le_refl _
          · rw [z]; exact Nat.le_add_right _ _
        exact I1.fpOk hle (I1.hok.fresh hle)
section
open Evl
variable {K : PySem.W.Frag} {σ : L2.St} {H : Hp} {ta : TE} {tb : TE} {D : Ends} {tu tz : TS}
/-- for n, (x, y) in enumerate(zip(a, b), start=c) -/
theorem s_forEnZ {a b : Addr} {xs ys : List V} {j l m : Nat} {c : Int} (ha : Ev ta σ H (.ref a)) (hb : ∀ H1, Ex H H1 → Ev tb σ H1 (.ref b)) (hx : SqL K H a xs) (hy : SqL K H b ys) (hl : xs.length = ys.length) (Pv : Nat → L2.St → Hp → Prop) (h0 : ∀ H1, Ex H H1 → Pv 0 σ H1)
    (hq : ∀ i σ' H', Pv i σ' H' → SqL K H' a xs ∧ SqL K H' b ys)
    (hs : ∀ (i : Nat) (x y : V) σ' H', xs[i]? = some x → ys[i]? = some y → Pv i σ' H' → ∀ H1, Ex H' H1 → tu { D with nx := Pv (i + 1), ct := Pv (i + 1), bk := D.nx } (((σ'.set j (some (.int (c + (i : Int))))).set l (some x)).set m (some y)) H1)
    (hd : ∀ σ' H', Pv xs.length σ' H' → D.nx σ' H') :
    tFor (iEnumZ K (tCons ta (tCons tb tNil)) c) (gTup K 2 (gCons (gName j) (gCons (gTup K 2 (gCons (gName l) (gCons (gName m) gNil))) gNil))) tu D σ H := by
  refine ha H (Ex.refl H) _ fun H1 e1 => hb H1 e1 H1 (Ex.refl H1) _ fun H2 e2 => ⟨a, b, xs, ys, rfl, ex_l (e1.trans e2) hx, ex_l (e1.trans e2) hy, ?_⟩
  refine ⟨fun i m σ H => m = xs.length - i ∧ i ≤ xs.length ∧ Pv i σ H, ⟨xs.length, rfl, Nat.zero_le _, h0 H2 (e1.trans e2)⟩, ?_⟩
  rintro i mm σ H ⟨rfl, hi, p⟩
  obtain ⟨qx, qy⟩ := hq i σ H p
  by_cases hlt : i < xs.length
  · have ex : xs[i]? = some xs[i] := List.getElem?_eq_getElem hlt
    have hlt2 : i < ys.length := by omega
    have ey : ys[i]? = some ys[i] := List.getElem?_eq_getElem hlt2
    refine .inr ⟨⟨xs, ys, _, _, qx, qy, ex, ey⟩, Pv (i + 1), fun σ' H' p' => ⟨xs.length - (i + 1), by omega, rfl, hlt, p'⟩, fun v H' yl => ?_⟩
    obtain ⟨T, P, x', y', rfl, hT, hP, ne, rfl, f1, f2⟩ := yl
    have hP' : (upd H T (.tup [x', y'])) P = none := by rw [upd_ne ne]; exact hP
    exact ⟨P, _, rfl, st_of upd_same, rfl, _, _, rfl, _, _, rfl, T, _, rfl, st_of (by rw [upd_ne (Ne.symm ne), upd_same]), rfl, _, _, rfl, _, _, rfl, rfl, rfl, hs i x' y' σ H (f1 xs qx) (f2 ys qy) p _ ((Ex.new hT).trans (Ex.new hP'))⟩
  · have e : i = xs.length := by omega
    subst e
    exact .inl ⟨⟨xs, ys, qx, qy, Or.inl (Nat.le_refl _)⟩, hd σ H p⟩
theorem q_forEnZ {a b : Addr} {xs ys : List V} {j l m : Nat} {c : Int} (ha : Ev ta σ H (.ref a)) (hb : ∀ H1, Ex H H1 → Ev tb σ H1 (.ref b)) (hx : SqL K H a xs) (hy : SqL K H b ys) (hl : xs.length = ys.length) (Pv : Nat → L2.St → Hp → Prop) (h0 : ∀ H1, Ex H H1 → Pv 0 σ H1)
    (hq : ∀ i σ' H', Pv i σ' H' → SqL K H' a xs ∧ SqL K H' b ys)
    (hs : ∀ (i : Nat) (x y : V) σ' H', xs[i]? = some x → ys[i]? = some y → Pv i σ' H' → ∀ H1, Ex H' H1 → tu { D with nx := Pv (i + 1), ct := Pv (i + 1), bk := tz D } (((σ'.set j (some (.int (c + (i : Int))))).set l (some x)).set m (some y)) H1)
    (hd : ∀ σ' H', Pv xs.length σ' H' → tz D σ' H') :
    tSeq (tFor (iEnumZ K (tCons ta (tCons tb tNil)) c) (gTup K 2 (gCons (gName j) (gCons (gTup K 2 (gCons (gName l) (gCons (gName m) gNil))) gNil))) tu) tz D σ H := s_forEnZ (D := { D with nx := tz D }) ha hb hx hy hl Pv h0 hq hs hd
/-- [e for x, y in zip(xs, ys) if ..] of pure parts -/
theorem el_lcZF {a b : Addr} {xs ys : List V} {tl tr : TE} {i j : Nat} {vs : List Nat} {t : TT} {te : TE} (f : Nat → Bool) (v : Nat → V) (h : Ev tl σ H (.ref a)) (h' : Ev tr σ H (.ref b)) (hx : SqL K H a xs) (hy : SqL K H b ys) (hz : xs.length ≤ 40000)
    (hw : ∀ x y, wipe (((wipe σ vs).set i (some x)).set j (some y)) vs = wipe σ vs)
    (ht : ∀ (n : Nat) x y H1, Ex H H1 → xs[n]? = some x → ys[n]? = some y → EvT t (((wipe σ vs).set i (some x)).set j (some y)) H1 (f n))
    (he : ∀ (n : Nat) x y H1, Ex H H1 → xs[n]? = some x → ys[n]? = some y → f n = true → Ev te (((wipe σ vs).set i (some x)).set j (some y)) H1 (v n)) :
    EvL (tLc (iZip K (tCons tl (tCons tr tNil))) (g2 K i j) t te vs) σ H (given (min xs.length ys.length) f v) := fun H0 e Q q => h H0 e _ fun H1 e1 => h' H1 (e.trans e1) _ fun H2 e2 => by
  have ee := (e.trans e1).trans e2
  refine ⟨a, b, xs, ys, rfl, ex_l ee hx, ex_l ee hy, fun Dl hD => ?_⟩
  refine ⟨fun n m H => m = min xs.length ys.length - n ∧ n ≤ min xs.length ys.length ∧ Cw H2 f v Dl n H, ⟨min xs.length ys.length, by simp, Nat.zero_le _, hD, Ex.new hD, upd_same⟩, ?_⟩
  rintro n m H ⟨rfl, hi, p⟩
  have qx := ex_l (ee.trans p.2.1) hx
  have qy := ex_l (ee.trans p.2.1) hy
  by_cases hlt : n < min xs.length ys.length
  · have h1 : n < xs.length := by omega
    have h2 : n < ys.length := by omega
    refine .inr ⟨⟨xs, ys, xs[n], ys[n], qx, qy, by simp [h1], by simp [h2]⟩, Cw H2 f v Dl (n + 1), fun H' p' => ⟨min xs.length ys.length - (n + 1), by omega, rfl, hlt, p'⟩, ?_⟩
    rintro w H' ⟨T, x, y, rfl, nT, rfl, gx, gy⟩
    have e3 := Ex.new (o := .tup [x, y]) nT
    refine g2_go upd_same ⟨hw _ _, cw_turn ⟨p.1, p.2.1.trans e3, e3 _ _ p.2.2⟩ (by omega) (ht n x y H2 ee (gx xs qx) (gy ys qy)) fun hf => he n x y H2 ee (gx xs qx) (gy ys qy) hf⟩
  · have e' : n = min xs.length ys.length := by omega
    subst e'
    exact .inl ⟨⟨xs, ys, qx, qy, by omega⟩, q Dl H (fresh_back (e1.trans e2) p.1) ((e1.trans e2).trans p.2.1) p.2.2⟩
end
end Bk
namespace Bk
open PySem PySem.Spec PyProof.Rows L2 Evl
/-! ### numbers of many digits as texts: the limit of digits is not set -/
def NoDig (h : Heap) : Prop := ∃ mc, h.Ns cStatics mc ∧ mc "sys.int_max_str_digits" = none
theorem NoDig.keeps {h h' : Heap} (x : NoDig h) (k : ∀ b o, h.get? b = some o → h'.get? b = some o) : NoDig h' := by
  obtain ⟨mc, ⟨o, es, ep, e, d, r⟩, n⟩ := x
  exact ⟨mc, ⟨o, es, ep, k _ _ e, d, r⟩, n⟩
theorem noDig_of {K : PySem.W.Frag} {h : Heap} (X : K.In h) (L : h.NoLimit) (e : PySem.W.nsIn K cStatics "sys.int_max_str_digits" = some none) : NoDig h := by
  obtain ⟨mc, G, _⟩ := L
  refine ⟨mc, G, ?_⟩
  obtain ⟨o, es, ep, ho, hd, _, hf⟩ := G
  unfold PySem.W.nsIn at e
  split at e
  · rename_i q
    have z := X _ _ q
    rw [ho] at z
    cases z; cases hd
    split at e
    · cases e
    · rename_i hn
      rw [← hf]; unfold nsFind findBy; rw [← Array.find?_toList, hn]; rfl
  · cases e
theorem over_big {M : Model} {A : Around} {E : Value → Shared → Prop} {s : Shared} {a : Int} {Q : Option Nat → Shared → Prop} (h : a.natAbs.log2 < 12000) (nd : NoDig s.heap) (q : Q none s) : wpAny M A (Builtin.overDigitLimit? a) Q E s := by
  unfold Builtin.overDigitLimit?
  by_cases c : a.natAbs.log2 < 1920
  · rw [if_pos c]; exact wpAny_pure q
  rw [if_neg c]
  obtain ⟨mc, G, e⟩ := nd
  refine wpAny_bind ?_
  unfold Builtin.intMaxStrDigits
  refine wpAny_bind (wpAny_nsGet G ?_)
  rw [e]
  refine wpAny_pure ?_
  have c1 : ¬ a.natAbs.log2 / 30 + 1 > 1000 := by omega
  show wpAny M A (if a.natAbs.log2 / 30 + 1 > 1000 then _ else if (4300 == 0 || decide (a.natAbs.log2 < 3 * 4300)) = true then pure none else _) Q E s
  rw [if_neg c1, if_pos (by rw [decide_eq_true (by omega)]; rfl)]
  exact wpAny_pure q
theorem repr_big {a : Int} (t : Tok) (h : a.natAbs.log2 < 12000) : GivesAt (fun s => NoDig s.heap) (Builtin.«int.__repr__» ⟨[.int a t], []⟩) (.str (toString a)) := by
  intro prog w A R s nd p
  unfold Builtin.«int.__repr__»
  refine wpAny_bind (wpAny_pure ?_)
  show wpAny _ _ (do let r ← Builtin.overDigitLimit? a; _) _ _ s
  refine wpAny_bind (over_big h nd ?_)
  exact wpAny_bind (wpAny_mkStr (wpAny_pure p.2) p.1)
theorem big_fits {a : Int} (h : a.natAbs.log2 < 12000) : (Str.ofString (toString a)).length ≤ sizeLine := by
  have e := int_text_length_le (k := 12000) (by decide) h
  rw [PySem.ofString_length, sizeLine_eq]; omega
theorem reprK_big {prog : Program} {w : World} {h₀ : Heap} {a : Int} (t : Tok) (nd : NoDig h₀) (h : a.natAbs.log2 < 12000) : ReprK prog w [] h₀ 0 (.int a t) (toString a) := fun base hb A g E s Q hg hcl hu hk hQ => by
  rw [pyReprUnder_leaf (v := .int a t) (by omega) (fun _ e => nomatch e)]
  unfold pyRepr
  exact wpAny_bind (wpAny_pyReprObj_slot (by omega) (typeIs_int s a t) F.slot_int_repr.toG (call_givesAt F.slot_int_repr (typeIs_int s a t) F.entry_int_repr (F.args_int_repr_1 _) (repr_big t h) (nd.keeps hk) ⟨big_fits h, _, _, rfl, wpAny_pure (hQ s.heap _ fun _ _ e => e)⟩))
theorem all_big {prog : Program} {w : World} {h₀ : Heap} (nd : NoDig h₀) : ∀ (ns : List Int) (vs : List Value) (as : List Addr), (∀ n ∈ ns, n.natAbs.log2 < 12000) → ReadsAll h₀ vs (di ns) as → ReprAllK prog w [] h₀ 0 vs (PyData.shownAll (di ns))
  | [], vs, as, hn, r => by
    cases r
    exact .nil
  | n :: ns, vs, as, hn, r => by
    cases r with
    | cons r rs =>
      show ReprAllK prog w [] h₀ 0 _ (PyData.shownAll (.int n :: di ns))
      rw [PyData.shownAll]
      refine .cons ?_ (all_big nd ns _ _ (fun m hm => hn m (List.mem_cons_of_mem _ hm)) rs)
      cases r with
      | int i t => rw [PyData.shown]; exact reprK_big t nd (hn n List.mem_cons_self)
def rReprB (K : PySem.W.Frag) : List V → Hp → VK → Prop := fun xs H Q => ∃ (a : Addr) (ns : List Int), xs = [.ref a] ∧ SqL K H a (vi ns) ∧ (∀ n ∈ ns, n.natAbs.log2 < 12000) ∧ ns.length ≤ 1000 ∧ Q (.str (PyData.list (di ns)).shown) H
theorem shown_big {ns : List Int} (h : ∀ n ∈ ns, n.natAbs.log2 < 12000) : ∀ t ∈ PyData.shownAll (di ns), t.length ≤ 12001 := fun t ht => shown_le (k := 12000) (by decide) h t ht
theorem call_reprB {X : Cx} {K : PySem.W.Frag} (hK : X.K = K) (bd : PySem.W.nsIn K cStatics "sys.int_max_str_digits" = some none) (hg : X.A.guards = some []) (hu : X.A.units + 64 < cLine) : CallR X (.builtin "repr") (rReprB K) := by
  subst hK
  intro pins s σ H xs us Q I r h
  obtain ⟨a, ns, rfl, hS, hw, hl, q⟩ := h
  obtain ⟨u, rfl, ru⟩ := vals1 r
  cases (show u = Value.ref a from ru)
  have nd : NoDig s.heap := noDig_of I.kIn I.nolimit bd
  obtain ⟨as, rd⟩ := Dp.reads I (.list (di ns)) (.ref a) (.ref a) (dp_lst hS) rfl
  have hz : (listText (PyData.shownAll (di ns))).length ≤ sizeLine := by
    have h1 := listText_le (shown_big hw)
    have h2 : (PyData.shownAll (di ns)).length = ns.length := by rw [shownAll_ints, List.length_map]
    rw [h2] at h1
    have : (12001 + 2) * ns.length ≤ 12003 * 1000 := Nat.mul_le_mul (Nat.le_refl _) hl
    have e : sizeLine = 16777216 := by decide
    omega
  cases rd with
  | list h1 h2 h3 h4 =>
    rename_i o vs n bs
    have hk := all_big (prog := X.prog) (w := X.w) nd ns _ _ hw h4
    refine call_repr_slot (by omega) (T := "list") (idr := "list.__repr__") ⟨o, h1, h2⟩ F.slot_list_repr.toG ?_
    obtain ⟨l⟩ := vs
    cases l with
    | nil =>
      have h4' : ReadsAll s.heap [] (di ns) _ := h4
      have e : ns = [] := by cases ns with | nil => rfl | cons _ _ => cases h4'
      subst e
      exact call_list_repr_empty ⟨o, h1, h2⟩ h1 h3 ⟨_, _, rfl, .str _, H, I.kept fun _ _ e => e, ⟨_, rfl⟩, q⟩
    | cons x l =>
      exact call_list_reprK h1 h2 h3 (List.not_mem_nil) (by simpa using hk.length_eq) (fun i y e => hk.item i y (by simpa using e)) hg (fun b _ => Clear.nil b) (by show X.A.units + 1 + (0 + 1) < cLine; omega) (fun _ _ e => e) (fun h' u tk k => ⟨_, _, rfl, .str _, H, I.kept k, ⟨_, rfl⟩, by rw [PyData.shown] at q; exact q⟩) hz
/-- of any data, or of a list of great numbers -/
def rReprC (K : PySem.W.Frag) : List V → Hp → VK → Prop := fun xs H Q => rReprX K xs H Q ∨ rReprB K xs H Q
theorem call_reprC {X : Cx} {K : PySem.W.Frag} (hK : X.K = K) (bd : PySem.W.nsIn K cStatics "sys.int_max_str_digits" = some none) (hg : X.A.guards = some []) (hu : X.A.units + 64 < cLine) : CallR X (.builtin "repr") (rReprC K) := by
  intro pins s σ H xs us Q I r h
  rcases h with h | h
  · exact call_reprX hK hg hu pins s σ H xs us Q I r h
  · exact call_reprB hK bd hg hu pins s σ H xs us Q I r h
section
variable {K : PySem.W.Frag} {σ : L2.St} {H : Hp} {te : TE}
theorem ev_reprCX {d : PyData} (h : EvD K te σ H d) (hs : Sho d) (no : ∀ y, d ≠ .str y) : Ev (tCB (rReprC K) (tCons te tNil)) σ H (.str d.shown) := fun H1 e Q q =>
  h H1 e _ fun v H2 e2 hd => .inl ⟨v, d, rfl, hd, hs, no, q H2 e2⟩
theorem ev_reprCB {p : Addr} {ns : List Int} (h : Ev te σ H (.ref p)) (g : SqL K H p (vi ns)) (hw : ∀ n ∈ ns, n.natAbs.log2 < 12000) (hl : ns.length ≤ 1000) : Ev (tCB (rReprC K) (tCons te tNil)) σ H (.str (PyData.list (di ns)).shown) := fun H1 e Q q =>
  h H1 e _ fun H2 e2 => .inr ⟨p, ns, rfl, ex_l (e.trans e2) g, hw, hl, q H2 e2⟩
theorem ev_reprCN {ns : List Int} (h : EvL te σ H (vi ns)) (hw : ∀ n ∈ ns, n.natAbs.log2 < 12000) (hl : ns.length ≤ 1000) : Ev (tCB (rReprC K) (tCons te tNil)) σ H (.str (PyData.list (di ns)).shown) := fun H1 e Q q =>
  h H1 e _ fun p H2 hp e2 g => .inr ⟨p, ns, rfl, sq_of g, hw, hl, q H2 e2⟩
theorem ev_reprB {p : Addr} {ns : List Int} (h : Ev te σ H (.ref p)) (g : SqL K H p (vi ns)) (hw : ∀ n ∈ ns, n.natAbs.log2 < 12000) (hl : ns.length ≤ 1000) : Ev (tCB (rReprB K) (tCons te tNil)) σ H (.str (PyData.list (di ns)).shown) := fun H1 e Q q =>
  h H1 e _ fun H2 e2 => ⟨p, ns, rfl, ex_l (e.trans e2) g, hw, hl, q H2 e2⟩
theorem ev_reprNB {ns : List Int} (h : EvL te σ H (vi ns)) (hw : ∀ n ∈ ns, n.natAbs.log2 < 12000) (hl : ns.length ≤ 1000) : Ev (tCB (rReprB K) (tCons te tNil)) σ H (.str (PyData.list (di ns)).shown) := fun H1 e Q q =>
  h H1 e _ fun p H2 hp e2 g => ⟨p, ns, rfl, sq_of g, hw, hl, q H2 e2⟩
end
end Bk
namespace Bk
open PySem PySem.Spec PyProof.Rows L2 Evl
/-! ### math.lcm of greater numbers -/
def rLcmW : List V → Hp → VK → Prop := fun vs H Q => ∃ a b : Int, vs = [.int a, .int b] ∧ a.natAbs < 2 ^ 6000 ∧ b.natAbs < 2 ^ 6000 ∧ Q (.int ((Nat.lcm a.natAbs b.natAbs : Nat) : Int)) H
theorem log_w {n : Nat} (h : n < 2 ^ 6000) : (max 1 n).log2 < 6000 := PySem.Flt.log2_lt_of (by decide) (by
  rcases Nat.le_total 1 n with z | z
  · rw [Nat.max_eq_right z]; exact h
  · rw [Nat.max_eq_left z]; exact Nat.one_lt_two_pow (by decide))
theorem cr_lcmW {X : Cx} : CallR X (.builtin "math.lcm") rLcmW := by
  intro pins s σ H vs us Q I r h
  obtain ⟨a, b, rfl, ha, hb, q⟩ := h
  obtain ⟨t, u, rfl⟩ := Vals.int2 r
  have e : ((Nat.lcm 1 a.natAbs).lcm b.natAbs) = Nat.lcm a.natAbs b.natAbs := by rw [Nat.lcm_one_left]
  have h1 : Nat.lcm a.natAbs b.natAbs ≤ a.natAbs * b.natAbs := by
    by_cases h0 : a.natAbs * b.natAbs = 0
    · rcases Nat.mul_eq_zero.mp h0 with z | z
      · rw [z, Nat.lcm_zero_left]; exact Nat.zero_le _
      · rw [z, Nat.lcm_zero_right]; exact Nat.zero_le _
    · exact Nat.le_of_dvd (Nat.pos_of_ne_zero h0) (Nat.lcm_dvd_mul _ _)
  have h2 : a.natAbs * b.natAbs < 2 ^ 12000 := by
    rw [show 12000 = 6000 + 6000 from rfl, Nat.pow_add]
    exact Nat.mul_lt_mul'' ha hb
  have l1 := log_w ha
  have l2 : (max a.natAbs b.natAbs).log2 < 6000 := PySem.Flt.log2_lt_of (by decide) (by
    rcases Nat.le_total a.natAbs b.natAbs with z | z
    · rw [Nat.max_eq_right z]; exact hb
    · rw [Nat.max_eq_left z]; exact ha)
  have hsz : ((((Nat.lcm 1 a.natAbs).lcm b.natAbs : Nat) : Int)).natAbs.log2 < bitsLine := by
    rw [e, Int.natAbs_natCast]
    exact Nat.lt_of_lt_of_le (PySem.Flt.log2_lt_of (k := 12000) (by decide) (Nat.lt_of_le_of_lt h1 h2)) (by decide)
  refine call_function_meets PySem.W.MGF.kind_lcm PySem.W.MGF.plain_lcm PySem.W.MGF.entry_lcm (PySem.W.MGF.args_lcm _ _) (PySem.W.mg_run_lcm a t b u (by omega) (by omega) hsz).meets ?_
  rw [e]
  exact ⟨.int _, H, I.tok _, ⟨_, rfl⟩, q⟩
/-! ### list(range(a, b, c)) -/
variable {X : Cx}
def rgS (a b c : Int) : List V := (List.range (Builtin.Range.rangeSize a b c).toNat).map fun i => V.int (a + (i : Nat) * c)
def tRg3 (ta tb tc : TE) : L2.St → Hp → (Int → Int → Int → Hp → Prop) → Prop := fun σ H Q => ta σ H fun x H1 => tb σ H1 fun y H2 => tc σ H2 fun z H3 => ∃ i j k, x = .int i ∧ y = .int j ∧ z = .int k ∧ Q i j k H3
def RgS (a b c : Int) : Prop := 0 < c ∧ -(2 ^ 62) ≤ a ∧ a < 2 ^ 62 ∧ -(2 ^ 62) ≤ b ∧ b < 2 ^ 62 ∧ c < 2 ^ 60 ∧ b - a ≤ 2 ^ 24
theorem small_s {a b c : Int} (h : RgS a b c) : Builtin.Range.small a b c = true ∧ ∃ n : Nat, Builtin.Range.rangeSize a b c = n ∧ n ≤ 2 ^ 24 := by
  obtain ⟨h0, h1, h2, h3, h4, h5, h6⟩ := h
  have hd : 0 ≤ b - a - 1 → 0 ≤ (b - a - 1) / c ∧ (b - a - 1) / c ≤ b - a - 1 := fun z => ⟨Int.ediv_nonneg z (by omega), Int.ediv_le_self _ z⟩
  have hs : 0 ≤ Builtin.Range.rangeSize a b c ∧ Builtin.Range.rangeSize a b c ≤ 2 ^ 24 := by
    unfold Builtin.Range.rangeSize
    rw [if_pos h0]
    by_cases z : a < b
    · rw [if_pos z]
      have := hd (by omega)
      omega
    · rw [if_neg z]
      decide
  refine ⟨?_, (Builtin.Range.rangeSize a b c).toNat, by rw [Int.toNat_of_nonneg hs.1], by omega⟩
  have e62 : (2 : Int) ^ 62 = 4611686018427387904 := by decide
  have e60 : (2 : Int) ^ 60 = 1152921504606846976 := by decide
  have e24 : (2 : Int) ^ 24 = 16777216 := by decide
  rw [e62] at *
  rw [e60] at *
  rw [e24] at *
  unfold Builtin.Range.small
  simp only [Builtin.Range.rangeFitsLong, Bool.and_eq_true, Bool.or_eq_true, decide_eq_true_eq, beq_iff_eq, h0, if_true]
  refine ⟨⟨?_, ?_⟩, ?_⟩ <;> first | omega | skip
theorem args3 {a b c : Expr} {ta tb tc : TE} {p pos : Pos} (hg : Gl X "range") (hm : X.mg "range" = none) (ha : PE X a ta) (hb : PE X b tb) (hc : PE X c tc) (na : starEach [a, b, c] X.env = (false, eval a X.env) :: starEach [b, c] X.env := by rfl)
    (nb : starEach [b, c] X.env = (false, eval b X.env) :: starEach [c] X.env := by rfl) (nc : starEach [c] X.env = (false, eval c X.env) :: starEach [] X.env := by rfl) (hp : (backTo pos (starEach [b, c] X.env)).any (·.1) = false := by rfl)
    {pins : List (Addr × Obj)} {s : Shared} {σ : L2.St} {H : Hp} {Q : Int → Int → Int → Hp → Prop} (I : Inv X pins σ H s) (h : tRg3 ta tb tc σ H fun i j k H1 => RgS i j k ∧ Q i j k H1) :
    wpAny (model X.prog X.w) X.A (eval (.Call (.Name "range" p) [a, b, c] [] pos) X.env) (fun x s' => ∃ r i j k t u v H', x = .ref r ∧ IsRange s'.heap r i j k t u v ∧ Inv X pins σ H' s' ∧ RgS i j k ∧ Q i j k H') X.xe s := by
  refine Call_ (ld_blt I hg hm boot_range (PyProof.Rows.callWith_type1 (args_cons (thn (ha.run pins s σ H _ I h) fun x s1 ⟨vx, H1, I1, r1, q1⟩ => args_cons (thn (hb.run pins s1 σ H1 _ I1 q1) fun y s2 ⟨vy, H2, I2, r2, q2⟩ => one_arg hc I2 q2 (fun u s3 z H3 I3 r3 q => ?_) nc) nb) na) na hp))
  obtain ⟨i, j, k, rfl, rfl, rfl, ok, q⟩ := q
  obtain ⟨t, rfl⟩ := r1
  obtain ⟨t', rfl⟩ := r2
  obtain ⟨t'', rfl⟩ := r3
  have o := ok
  obtain ⟨k0, k1, k2, k3, k4, k5, k6⟩ := o
  have hk : k.natAbs < 2 ^ 64 := by
    have e60 : (2 : Int) ^ 60 = 1152921504606846976 := by decide
    have e64 : (2 : Nat) ^ 64 = 18446744073709551616 := by decide
    omega
  refine call_range_3 (by omega) ⟨_, i, j, k, _, _, _, H3, rfl, IsRange.new _ _ _ _ _ _ _, I3.kept fun b u e => Heap.get?_push_of_some _ e, ok, q⟩ (.inl (PyProof.noPylong_of_log2 (Nat.lt_of_lt_of_le (PySem.Flt.log2_lt_of (k := 64) (by decide) hk) (by decide))))
def tLstRg3 (te : L2.St → Hp → (Int → Int → Int → Hp → Prop) → Prop) : TE := fun σ H Q => te σ H fun a b c H1 => RgS a b c ∧ ∀ q, H1 q = none → Q (.ref q) (upd H1 q (.lst (rgS a b c)))
theorem vals_rgS {a b c : Int} {n : Nat} (hn : Builtin.Range.rangeSize a b c = n) {acc : Array Value} (h : ItemsOf (fun i v => ∃ t, v = .int (a + i * c) t) acc n) : Vals (rgS a b c) acc.toList := by
  have e : acc.toList.length = n := by rw [Array.length_toList]; exact h.1
  unfold rgS
  rw [hn, Int.toNat_natCast, ← e]
  refine vals_of_get acc.toList _ fun j u hj => ?_
  obtain ⟨t, rfl⟩ := h.2 j u (by rw [← hj, Array.getElem?_toList])
  exact ⟨t, rfl⟩
theorem pe_listRg3 {a b c : Expr} {ta tb tc : TE} {p p2 pos pos2 : Pos} (hca : X.calm = true) (hl : Gl X "list") (hml : X.mg "list" = none) (hg : Gl X "range") (hm : X.mg "range" = none) (ha : PE X a ta) (hb : PE X b tb) (hc : PE X c tc) (na : starEach [a, b, c] X.env = (false, eval a X.env) :: starEach [b, c] X.env := by rfl)
    (nb : starEach [b, c] X.env = (false, eval b X.env) :: starEach [c] X.env := by rfl) (nc : starEach [c] X.env = (false, eval c X.env) :: starEach [] X.env := by rfl) (hp : (backTo pos (starEach [b, c] X.env)).any (·.1) = false := by rfl)
    (ne : starEach [.Call (.Name "range" p) [a, b, c] [] pos] X.env = (false, eval (.Call (.Name "range" p) [a, b, c] [] pos) X.env) :: starEach [] X.env := by rfl) : PE X (.Call (.Name "list" p2) [.Call (.Name "range" p) [a, b, c] [] pos] [] pos2) (tLstRg3 (tRg3 ta tb tc)) := by
  refine ⟨fun pins s σ H Q I h => ?_⟩
  refine Call_ (ld_blt I hl hml boot_list (PyProof.Rows.callWith_type1 (args_cons (thn (args3 hg hm ha hb hc na nb nc hp (Q := fun i j k H1 => ∀ q, H1 q = none → Q (.ref q) (upd H1 q (.lst (rgS i j k)))) I h) fun x s1 ⟨r, i, j, k, t, u, v, H1, ex, hr, I1, ok, q⟩ => args_nil ?_) ne) ne))
  subst ex
  obtain ⟨sm, n, hn, hle⟩ := small_s ok
  refine call_list_range (n := n) (I1.ok.hd hca) hr sm hn hle fun h' tk acc c' hk e' hi => ?_
  refine ⟨.ref s1.heap.objs.size, upd H1 s1.heap.objs.size (.lst (rgS i j k)), I1.laid hk (Nat.le_refl _) (show ObjOk X.prog X.w _ _ _ (.lst (rgS i j k)) from ⟨?_, acc.toList, c', vals_rgS hn hi, ?_⟩), rfl, q _ (I1.hok.fresh (Nat.le_refl _))⟩
  · unfold rgS
    rw [List.length_map, List.length_range, hn, Int.toNat_natCast, sizeLine_eq]; omega
  · rw [Array.toArray_toList]; exact e'
section
variable {K : PySem.W.Frag} {σ : L2.St} {H : Hp} {ta tb tc : TE} {a b c : Int}
theorem ev_lcmW (ha : Ev ta σ H (.int a)) (hb : Ev tb σ H (.int b)) (h1 : a.natAbs < 2 ^ 6000) (h2 : b.natAbs < 2 ^ 6000) : Ev (tCB rLcmW (tCons ta (tCons tb tNil))) σ H (.int ((Nat.lcm a.natAbs b.natAbs : Nat) : Int)) := fun H1 e Q q =>
  ha H1 e _ fun H2 e2 => hb H2 (e.trans e2) _ fun H3 e3 => ⟨a, b, rfl, h1, h2, q H3 (e2.trans e3)⟩
theorem el_rg3 (ha : Ev ta σ H (.int a)) (hb : Ev tb σ H (.int b)) (hc : Ev tc σ H (.int c)) (h : RgS a b c) : EvL (tLstRg3 (tRg3 ta tb tc)) σ H (rgS a b c) := fun H1 e Q q =>
  ha H1 e _ fun H2 e2 => hb H2 (e.trans e2) _ fun H3 e3 => hc H3 ((e.trans e2).trans e3) _ fun H4 e4 => ⟨a, b, c, rfl, rfl, rfl, h, fun p hp => q p _ (fresh_back ((e2.trans e3).trans e4) hp) (((e2.trans e3).trans e4).trans (Ex.new hp)) upd_same⟩
theorem ev_minN {ns : List Int} {m : Int} (h : EvL ta σ H (vi ns)) (hm : m ∈ ns) (hx : ∀ y ∈ ns, m ≤ y) : Ev (tCB (rMin K) (tCons ta tNil)) σ H (.int m) := fun H1 e Q q =>
  h H1 e _ fun p H2 hp e2 g => ⟨p, ns, rfl, sq_of g, List.length_pos_of_mem hm, fun k h1 h2 => by
    have := hx k h1
    have := h2 m hm
    have e0 : k = m := by omega
    rw [e0]
    exact q H2 e2⟩
theorem ev_minP {p : Addr} {ns : List Int} {m : Int} (h : Ev ta σ H (.ref p)) (g : SqL K H p (vi ns)) (hm : m ∈ ns) (hx : ∀ y ∈ ns, m ≤ y) : Ev (tCB (rMin K) (tCons ta tNil)) σ H (.int m) := fun H1 e Q q =>
  h H1 e _ fun H2 e2 => ⟨p, ns, rfl, ex_l (e.trans e2) g, List.length_pos_of_mem hm, fun k h1 h2 => by
    have := hx k h1
    have := h2 m hm
    have e0 : k = m := by omega
    rw [e0]
    exact q H2 e2⟩
end
end Bk
/-! list(zip(*x)) of tuples -/
namespace PySem
open Sem (wp)
open RZ
/-! ### zip of any number of tuples -/
/-- the cells of a zip over the tuples at ls, which stands at k; all that belongs to it stands from b on -/
structure ZN (h : Heap) (b : Addr) (ls : List Addr) (k : Nat) : Prop where
  ti : h.get? (b + ls.length) = some { cls := .type "tuple", data := .seq ((List.range ls.length).map fun j => Value.ref (b + j)).toArray }
  its : ∀ (j : Nat) l, ls[j]? = some l → h.IsTupleIter (b + j) l k
/-- the columns -/
def zcol (xss : List (List Value)) (k : Nat) : List Value := xss.map fun xs => xs.getD k .none
structure ZSrc (h : Heap) (b : Addr) (ls : List Addr) (xss : List (List Value)) : Prop where
  len : ls.length = xss.length
  at_ : ∀ (j : Nat) l, ls[j]? = some l → l < b ∧ ∃ xs, xss[j]? = some xs ∧ h.IsTuple l xs.toArray
theorem zcol_get {xss : List (List Value)} {j k : Nat} {xs : List Value} {x : Value} (h : xss[j]? = some xs) (hx : xs[k]? = some x) : (zcol xss k)[j]? = some x := by
  unfold zcol
  rw [List.getElem?_map, h]
  show some (xs.getD k .none) = some x
  rw [List.getD_eq_getElem?_getD, hx]
  rfl
section
variable {prog : Program} {w : World} {A : Around} {E : Value → Shared → Prop} {s : Shared}
theorem zn_drop {α : Type} {xs rest : List α} {x : α} {i : Nat} (h : xs.drop i = x :: rest) : i < xs.length ∧ xs[i]? = some x ∧ xs.drop (i + 1) = rest := by
  have h1 : i < xs.length := by
    refine Nat.lt_of_not_le fun z => ?_
    rw [List.drop_eq_nil_of_le z] at h
    cases h
  rw [List.drop_eq_getElem_cons h1] at h
  cases h
  exact ⟨h1, List.getElem?_eq_getElem h1, rfl⟩
theorem zn_range {n i : Nat} {r : List Value} {b : Addr} {x : Value} (h : (((List.range n).map fun j => Value.ref (b + j)).drop i) = x :: r) : i < n ∧ x = .ref (b + i) := by
  obtain ⟨h1, h2, _⟩ := zn_drop h
  rw [List.length_map, List.length_range] at h1
  rw [List.getElem?_map, List.getElem?_range h1] at h2
  exact ⟨h1, (Option.some.inj h2).symm⟩
/-- what a turn keeps -/
def ZKept (b : Addr) (h h' : Heap) : Prop := ∀ c o, c < b → h.get? c = some o → h'.get? c = some o
theorem zn_next_held {b : Addr} {ls : List Addr} {xss : List (List Value)} {k : Nat} {T : Addr} {f : Bool} {oT : Obj} {Q : Value → Shared → Prop}
    (hn : 1 ≤ ls.length) (hs : ls.length ≤ 1000) (hz : IsZ s.heap (b + ls.length + 2) (b + ls.length) (b + ls.length + 1) (rawInt T) f) (hT : s.heap.get? T = some oT) (Z : ZN s.heap b ls k) (S : ZSrc s.heap b ls xss)
    (hx : ∀ xs ∈ xss, k < xs.length)
    (hQ : ∀ h', IsZ h' (b + ls.length + 2) (b + ls.length) (b + ls.length + 1) (rawInt T) true → ZN h' b ls (k + 1) → h'.get? s.heap.objs.size = some { cls := .type "tuple", data := .seq (zcol xss k).toArray } → h'.objs.size = s.heap.objs.size + 1 →
      (∀ c o, (c < b ∨ b + ls.length + 2 < c) → s.heap.get? c = some o → h'.get? c = some o) → Q (.ref s.heap.objs.size) { s with heap := h' }) :
    wpAny (model prog w) A (Builtin.«zip.__next__» ⟨[.ref (b + ls.length + 2)], []⟩) (fun fin s' => ∃ v, fin = .done (.ret v) ∧ Q v s') E s := by
  have hzl : b + ls.length + 2 < s.heap.objs.size := Heap.lt_size hz
  show wpAny _ _ (field (.ref (b + ls.length + 2)) 2 >>= _) _ _ _
  refine wpAny_bind (wpAny_field hz rfl (x := .bool false) rfl ?_)
  show wpAny _ _ (field (.ref (b + ls.length + 2)) 3 >>= _) _ _ _
  refine wpAny_bind (wpAny_field hz rfl (x := .ref (b + ls.length)) rfl ?_)
  refine wpAny_bind (wpAny_seqItems Z.ti rfl ?_)
  have he : ((List.range ls.length).map fun j => Value.ref (b + j)).toArray.isEmpty = false := by
    rw [List.isEmpty_toArray]
    cases hl : ls.length with
    | zero => omega
    | succ n => rw [List.range_succ_eq_map]; rfl
  simp only [he, Bool.false_eq_true, if_false]
  show wpAny _ _ (Builtin.SmallTypes.ownedTupleIsFree (.ref (b + ls.length + 2)) >>= _) _ _ _
  refine wpAny_bind (wpAny_tupleHeld_zip hz hT fun h₁ hz₁ hs₁ => ?_)
  simp only [Bool.false_eq_true, if_false]
  refine wpAny_bind ?_
  refine wpAny_forIn_array' _ (fun (rest : List Value) bb s' => ∃ i, rest = ((List.range ls.length).map fun j => Value.ref (b + j)).drop i ∧ i ≤ ls.length ∧ (∃ h', s' = { s with heap := h' } ∧ h'.objs.size = s.heap.objs.size ∧
      IsZ h' (b + ls.length + 2) (b + ls.length) (b + ls.length + 1) (rawInt T) true ∧ (∀ c o, (c < b ∨ b + ls.length ≤ c) → h₁.get? c = some o → h'.get? c = some o) ∧
      (∀ (j : Nat) l, ls[j]? = some l → h'.IsTupleIter (b + j) l (if j < i then k + 1 else k))) ∧ bb = ⟨none, ((zcol xss k).take i).toArray⟩) _ ?_ ?_ _ _ ⟨0, rfl, Nat.zero_le _, ⟨h₁, rfl, hs₁.1, hz₁, fun c o _ e => e, fun j l e => ?_⟩, by simp⟩
  · rintro x rest bb s' ⟨i, er, hi, ⟨h', rfl, hsz, hz', hk, hit⟩, rfl⟩
    obtain ⟨hi', ex⟩ := zn_range er.symm
    subst ex
    have el : ls[i]? = some ls[i] := List.getElem?_eq_getElem hi'
    obtain ⟨hlb, xs, exs, hl⟩ := S.at_ i _ el
    have hkx := hx xs (List.mem_of_getElem? exs)
    have ex : xs[k]? = some xs[k] := List.getElem?_eq_getElem hkx
    have it0 : h'.IsTupleIter (b + i) ls[i] k := by have := hit i _ el; rwa [if_neg (Nat.lt_irrefl _)] at this
    have hl' : h'.IsTuple ls[i] xs.toArray := by
      obtain ⟨o, e, q⟩ := hl
      exact ⟨o, hk _ _ (.inl hlb) (hs₁.extBut _ _ (by unfold Addr at *; omega) e), q⟩
    refine wpAny_bind (wpAny_holding ?_)
    show wpAny _ _ (Builtin.SmallTypes.nextOf (.ref (b + i)) >>= _) _ _ _
    refine wpAny_bind (nextOf_tuple_item (s := { s with heap := h' }) it0 hl' (x := xs[k]) (by simpa using ex) fun h2 it2 sb => wpAny_pure ?_)
    refine wpAny_pure ⟨i + 1, (zn_drop er.symm).2.2.symm, hi', ⟨h2, rfl, sb.1.trans hsz, sb.extBut _ _ (by unfold Addr at *; omega) hz', fun c o hc e => sb.extBut _ _ (by unfold Addr at *; omega) (hk c o hc e), fun j l e => ?_⟩, ?_⟩
    · by_cases hj : j = i
      · subst hj
        rw [if_pos (Nat.lt_succ_self _)]
        rw [el] at e
        cases e
        exact it2
      · have e0 := hit j l e
        have e1 : (j < i + 1) = (j < i) := by
          refine propext ⟨fun z => by omega, fun z => by omega⟩
        simp only [e1]
        exact e0.extBut sb.extBut (by unfold Addr at *; omega)
    · rw [List.take_add_one, zcol_get exs ex]
      simp
  · rintro bb s' ⟨i, er, hi, ⟨h', rfl, hsz, hz', hk, hit⟩, rfl⟩
    have ei : i = ls.length := by
      have : (((List.range ls.length).map fun j => Value.ref (b + j)).drop i).length = 0 := by rw [← er]; rfl
      rw [List.length_drop, List.length_map, List.length_range] at this
      omega
    subst ei
    have el : (zcol xss k).length = ls.length := by unfold zcol; rw [List.length_map, S.len]
    have et : (zcol xss k).take ls.length = zcol xss k := List.take_of_length_le (by rw [el]; exact Nat.le_refl _)
    show wpAny _ _ (newTuple ((zcol xss k).take ls.length).toArray.toList >>= _) _ _ _
    rw [et]
    refine wpAny_bind (wpAny_newTuple (wpAny_pure ⟨_, rfl, ?_⟩) (by rw [el]; exact Nat.le_trans hs (by decide)))
    show Q (.ref h'.objs.size) _
    have hp : (h'.push { cls := .type "tuple", data := .seq (zcol xss k).toArray }).get? h'.objs.size = some { cls := .type "tuple", data := .seq (zcol xss k).toArray } := Heap.get?_push_size _ rfl
    have h4 : (h'.push { cls := .type "tuple", data := .seq (zcol xss k).toArray }).objs.size = h'.objs.size + 1 := Heap.size_push ..
    rw [hsz] at hp h4 ⊢
    refine hQ _ (Heap.get?_push_of_some _ hz') ⟨Heap.get?_push_of_some _ (hk _ _ (.inr (Nat.le_refl _)) (hs₁.extBut _ _ (by unfold Addr at *; omega) Z.ti)), fun j l e => ?_⟩ hp h4 fun c o hc e => Heap.get?_push_of_some _ (hk c o (by unfold Addr at *; omega) (hs₁.extBut _ _ (by unfold Addr at *; omega) e))
    have hj : j < ls.length := (List.getElem?_eq_some_iff.mp e).1
    have e0 := hit j l e
    rw [if_pos hj] at e0
    exact e0.at fun o q => Heap.get?_push_of_some _ q
  · rw [if_neg (Nat.not_lt_zero _)]
    have hj : j < ls.length := (List.getElem?_eq_some_iff.mp e).1
    exact (Z.its j l e).extBut hs₁.extBut (by unfold Addr at *; omega)
theorem upd_seq {T : Addr} {vs : List Value} {x : Value} {k : Nat} {Q : Unit → Shared → Prop} (hT : s.heap.get? T = some { cls := .type "tuple", data := .seq vs.toArray }) (hl : vs.length ≤ 1000)
    (h : ∀ h', h'.get? T = some { cls := .type "tuple", data := .seq (vs.set k x).toArray } → Heap.SameBut T s.heap h' → Q () { s with heap := h' }) :
    wpAny (model prog w) A (updateSeq T (·.setIfInBounds k x)) Q E s := by
  have hb : (1000 : Nat) ≤ sizeLine := by decide
  refine wpAny_updateSeq hT rfl (h _ ?_ (Heap.SameBut.update ..)) (by rw [List.size_toArray]; omega) (by rw [Array.size_setIfInBounds, List.size_toArray]; omega)
  rw [Heap.get?_update_self _ hT rfl]
  simp [Obj.mapSeq]
/-- the first turn: nothing was given out -/
theorem zn_next_first {b : Addr} {ls : List Addr} {xss : List (List Value)} {k : Nat} {f : Bool} {vs : List Value} {Q : Value → Shared → Prop}
    (hn : 1 ≤ ls.length) (hs : ls.length ≤ 1000) (hz : IsZ s.heap (b + ls.length + 2) (b + ls.length) (b + ls.length + 1) .none f) (Z : ZN s.heap b ls k) (S : ZSrc s.heap b ls xss)
    (hO : s.heap.get? (b + ls.length + 1) = some { cls := .type "tuple", data := .seq vs.toArray }) (hv : vs.length = ls.length)
    (hx : ∀ xs ∈ xss, k < xs.length)
    (hQ : ∀ h', IsZ h' (b + ls.length + 2) (b + ls.length) (b + ls.length + 1) (rawInt s.heap.objs.size) false → ZN h' b ls (k + 1) → h'.get? s.heap.objs.size = some { cls := .type "tuple", data := .seq (zcol xss k).toArray } → h'.objs.size = s.heap.objs.size + 1 →
      (∀ c o, (c < b ∨ b + ls.length + 2 < c) → s.heap.get? c = some o → h'.get? c = some o) → Q (.ref s.heap.objs.size) { s with heap := h' }) :
    wpAny (model prog w) A (Builtin.«zip.__next__» ⟨[.ref (b + ls.length + 2)], []⟩) (fun fin s' => ∃ v, fin = .done (.ret v) ∧ Q v s') E s := by
  have hzl : b + ls.length + 2 < s.heap.objs.size := Heap.lt_size hz
  show wpAny _ _ (field (.ref (b + ls.length + 2)) 2 >>= _) _ _ _
  refine wpAny_bind (wpAny_field hz rfl (x := .bool false) rfl ?_)
  show wpAny _ _ (field (.ref (b + ls.length + 2)) 3 >>= _) _ _ _
  refine wpAny_bind (wpAny_field hz rfl (x := .ref (b + ls.length)) rfl ?_)
  refine wpAny_bind (wpAny_seqItems Z.ti rfl ?_)
  have he : ((List.range ls.length).map fun j => Value.ref (b + j)).toArray.isEmpty = false := by
    rw [List.isEmpty_toArray]
    cases hl : ls.length with
    | zero => omega
    | succ n => rw [List.range_succ_eq_map]; rfl
  simp only [he, Bool.false_eq_true, if_false]
  show wpAny _ _ (Builtin.SmallTypes.ownedTupleIsFree (.ref (b + ls.length + 2)) >>= _) _ _ _
  refine wpAny_bind ?_
  unfold Builtin.SmallTypes.ownedTupleIsFree
  refine wpAny_bind (wpAny_field hz rfl (x := .none) rfl (wpAny_pure ?_))
  simp only [if_true]
  refine wpAny_bind (wpAny_rule ?_)
  refine wpAny_bind (wpAny_field hz rfl (x := .ref (b + ls.length + 1)) rfl ?_)
  refine wpAny_bind (wpAny_setField_rec hz (by simp) fun h₁ hz₁ hs₁ => ?_)
  replace hz₁ : IsZ h₁ (b + ls.length + 2) (b + ls.length) (b + ls.length + 1) .ellipsis f := hz₁
  refine wpAny_bind ?_
  refine wpAny_forIn_list _ (fun (rest : List (Value × Nat)) bb s' => ∃ i, rest = (((List.range ls.length).map fun j => Value.ref (b + j)).drop i).zipIdx i ∧ i ≤ ls.length ∧ (∃ h' us, s' = { s with heap := h' } ∧ h'.objs.size = s.heap.objs.size ∧
      IsZ h' (b + ls.length + 2) (b + ls.length) (b + ls.length + 1) .ellipsis f ∧ (∀ c o, (c < b ∨ b + ls.length = c ∨ b + ls.length + 2 ≤ c) → h₁.get? c = some o → h'.get? c = some o) ∧
      h'.get? (b + ls.length + 1) = some { cls := .type "tuple", data := .seq us.toArray } ∧ us.length = ls.length ∧ (∀ j : Nat, j < i → us[j]? = (zcol xss k)[j]?) ∧
      (∀ (j : Nat) l, ls[j]? = some l → h'.IsTupleIter (b + j) l (if j < i then k + 1 else k))) ∧ bb = _) _ ?_ ?_ _ _ ⟨0, rfl, Nat.zero_le _, ⟨h₁, vs, rfl, hs₁.1, hz₁, fun c o _ e => e, hs₁.extBut _ _ (by unfold Addr at *; omega) hO, hv, fun j z => (Nat.not_lt_zero _ z).elim, fun j l e => ?_⟩, rfl⟩
  · rintro ⟨x, i'⟩ rest bb s' ⟨i, er, hi, ⟨h', us, rfl, hsz, hz', hk, hO', hu, hg, hit⟩, rfl⟩
    obtain ⟨y, r, ed⟩ : ∃ y r, ((List.range ls.length).map fun j => Value.ref (b + j)).drop i = y :: r := by
      cases q : ((List.range ls.length).map fun j => Value.ref (b + j)).drop i with
      | nil => rw [q] at er; cases er
      | cons y r => exact ⟨y, r, rfl⟩
    rw [ed, List.zipIdx_cons] at er
    obtain ⟨ea, rfl⟩ := List.cons.inj er
    obtain ⟨rfl, ei0⟩ := Prod.mk.inj ea
    have ei1 := ei0.symm
    subst ei1
    obtain ⟨hi', ex⟩ := zn_range ed
    subst ex
    have el : ls[i]? = some ls[i] := List.getElem?_eq_getElem hi'
    obtain ⟨hlb, xs, exs, hl⟩ := S.at_ i _ el
    have hkx := hx xs (List.mem_of_getElem? exs)
    have ex : xs[k]? = some xs[k] := List.getElem?_eq_getElem hkx
    have it0 : h'.IsTupleIter (b + i) ls[i] k := by have := hit i _ el; rwa [if_neg (Nat.lt_irrefl _)] at this
    have hl' : h'.IsTuple ls[i] xs.toArray := by
      obtain ⟨o, e, q⟩ := hl
      exact ⟨o, hk _ _ (.inl hlb) (hs₁.extBut _ _ (by unfold Addr at *; omega) e), q⟩
    refine wpAny_bind (wpAny_onRaise ?_)
    show wpAny _ _ (Builtin.SmallTypes.nextOf (.ref (b + i)) >>= _) _ _ _
    refine wpAny_bind (nextOf_tuple_item (s := { s with heap := h' }) it0 hl' (x := xs[k]) (by simpa using ex) fun h2 it2 sb => wpAny_pure ?_)
    have hO2 := sb.extBut _ _ (show b + ls.length + 1 ≠ b + i by unfold Addr at *; omega) hO'
    refine wpAny_bind (wpAny_seqItems hO2 rfl ?_)
    refine wpAny_bind (upd_seq (s := { s with heap := h2 }) hO2 (by omega) fun h3 hO3 sc => ?_)
    refine wpAny_bind (wpAny_letGo (wpAny_pure ?_))
    refine ⟨i + 1, by rw [(zn_drop ed).2.2], hi', ⟨h3, us.set i xs[k], rfl, (sc.1.trans sb.1).trans hsz, sc.extBut _ _ (by unfold Addr at *; omega) (sb.extBut _ _ (by unfold Addr at *; omega) hz'), fun c o hc e => sc.extBut _ _ (by unfold Addr at *; omega) (sb.extBut _ _ (by unfold Addr at *; omega) (hk c o hc e)), hO3, by rw [List.length_set, hu], fun j hj => ?_, fun j l e => ?_⟩, rfl⟩
    · by_cases hj' : j = i
      · subst hj'
        rw [List.getElem?_set_self (by omega), zcol_get exs ex]
      · rw [List.getElem?_set_ne (Ne.symm hj')]
        exact hg j (by omega)
    · by_cases hj : j = i
      · subst hj
        rw [if_pos (Nat.lt_succ_self _)]
        rw [el] at e
        cases e
        exact it2.extBut sc.extBut (by unfold Addr at *; omega)
      · have e0 := hit j l e
        have e1 : (j < i + 1) = (j < i) := by
          refine propext ⟨fun z => by omega, fun z => by omega⟩
        simp only [e1]
        have hj : j < ls.length := (List.getElem?_eq_some_iff.mp e).1
        exact (e0.extBut sb.extBut (by unfold Addr at *; omega)).extBut sc.extBut (by unfold Addr at *; omega)
  · rintro bb s' ⟨i, er, hi, ⟨h', us, rfl, hsz, hz', hk, hO', hu, hg, hit⟩, rfl⟩
    have ei : i = ls.length := by
      have : ((((List.range ls.length).map fun j => Value.ref (b + j)).drop i).zipIdx i).length = 0 := by rw [← er]; rfl
      rw [List.length_zipIdx, List.length_drop, List.length_map, List.length_range] at this
      omega
    subst ei
    have el : (zcol xss k).length = ls.length := by unfold zcol; rw [List.length_map, S.len]
    obtain rfl : us = zcol xss k := by
      refine List.ext_getElem? fun j => ?_
      by_cases hj : j < ls.length
      · exact hg j hj
      · rw [List.getElem?_eq_none (by omega), List.getElem?_eq_none (by omega)]
    show wpAny _ _ (seqItems? (.ref (b + ls.length + 1)) >>= _) _ _ _
    refine wpAny_bind (wpAny_seqItems hO' rfl ?_)
    refine wpAny_bind (wpAny_newTuple ?_ (by rw [el]; exact Nat.le_trans hs (by decide)))
    show wpAny _ _ (Builtin.SmallTypes.ownedTupleHandOut (.ref (b + ls.length + 2)) (.ref h'.objs.size) >>= _) _ _ _
    refine wpAny_bind ?_
    unfold Builtin.SmallTypes.ownedTupleHandOut
    have hz₆ : IsZ (h'.push { cls := .type "tuple", data := .seq (zcol xss k).toArray }) (b + ls.length + 2) (b + ls.length) (b + ls.length + 1) .ellipsis f := Heap.get?_push_of_some _ hz'
    refine wpAny_bind (wpAny_setField_rec hz₆ (by simp) fun h₇ hz₇ hs₇ => ?_)
    replace hz₇ : IsZ h₇ (b + ls.length + 2) (b + ls.length) (b + ls.length + 1) (rawInt h'.objs.size) f := hz₇
    refine wpAny_setField_rec hz₇ (by simp) fun h₈ hz₈ hs₈ => ?_
    replace hz₈ : IsZ h₈ (b + ls.length + 2) (b + ls.length) (b + ls.length + 1) (rawInt h'.objs.size) false := hz₈
    have up : ∀ c o, c ≠ b + ls.length + 2 → h'.get? c = some o → h₈.get? c = some o := fun c o c1 e => hs₈.extBut _ _ c1 (hs₇.extBut _ _ c1 (Heap.get?_push_of_some _ e))
    have hT₈ : h₈.get? h'.objs.size = some { cls := .type "tuple", data := .seq (zcol xss k).toArray } := hs₈.extBut _ _ (by unfold Addr at *; omega) (hs₇.extBut _ _ (by unfold Addr at *; omega) (Heap.get?_push_size _ rfl))
    have hz8 : h₈.objs.size = h'.objs.size + 1 := by rw [hs₈.1, hs₇.1, Heap.size_push]
    rw [hsz] at hz₈ hT₈ hz8
    refine wpAny_pure ⟨_, rfl, ?_⟩
    show Q (.ref h'.objs.size) _
    rw [hsz]
    refine hQ h₈ hz₈ ⟨up _ _ (by unfold Addr at *; omega) (hk _ _ (.inr (.inl rfl)) (hs₁.extBut _ _ (by unfold Addr at *; omega) Z.ti)), fun j l e => ?_⟩ hT₈ hz8 fun c o hc e => up _ _ (by unfold Addr at *; omega) (hk c o (by unfold Addr at *; omega) (hs₁.extBut _ _ (by unfold Addr at *; omega) e))
    have hj : j < ls.length := (List.getElem?_eq_some_iff.mp e).1
    have e0 := hit j l e
    rw [if_pos hj] at e0
    exact e0.at fun o q => up _ o (by unfold Addr at *; omega) q
  · rw [if_neg (Nat.not_lt_zero _)]
    have hj : j < ls.length := (List.getElem?_eq_some_iff.mp e).1
    exact (Z.its j l e).extBut hs₁.extBut (by unfold Addr at *; omega)
end
end PySem
namespace PySem
open Sem (wp)
open RZ
section
variable {prog : Program} {w : World} {A : Around} {E : Value → Shared → Prop} {s : Shared}
theorem zn_next_end {b : Addr} {ls : List Addr} {xss : List (List Value)} {k : Nat} {T : Addr} {f : Bool} {oT : Obj} {Q : Fin → Shared → Prop} (hh : A.handled = none)
    (hn : 1 ≤ ls.length) (hz : IsZ s.heap (b + ls.length + 2) (b + ls.length) (b + ls.length + 1) (rawInt T) f) (hT : s.heap.get? T = some oT) (Z : ZN s.heap b ls k) (S : ZSrc s.heap b ls xss)
    (hx : ∀ xs ∈ xss, xs.length ≤ k)
    (hE : ∀ h' e, (∀ c o, (c < b ∨ b + ls.length + 2 < c) → s.heap.get? c = some o → h'.get? c = some o) → (∃ o, h'.get? e = some o ∧ o.cls = .type "StopIteration") → E (.ref e) { s with heap := h' }) :
    wpAny (model prog w) A (Builtin.«zip.__next__» ⟨[.ref (b + ls.length + 2)], []⟩) Q E s := by
  have hzl : b + ls.length + 2 < s.heap.objs.size := Heap.lt_size hz
  show wpAny _ _ (field (.ref (b + ls.length + 2)) 2 >>= _) _ _ _
  refine wpAny_bind (wpAny_field hz rfl (x := .bool false) rfl ?_)
  show wpAny _ _ (field (.ref (b + ls.length + 2)) 3 >>= _) _ _ _
  refine wpAny_bind (wpAny_field hz rfl (x := .ref (b + ls.length)) rfl ?_)
  refine wpAny_bind (wpAny_seqItems Z.ti rfl ?_)
  have he : ((List.range ls.length).map fun j => Value.ref (b + j)).toArray.isEmpty = false := by
    rw [List.isEmpty_toArray]
    cases hl : ls.length with
    | zero => omega
    | succ n => rw [List.range_succ_eq_map]; rfl
  simp only [he, Bool.false_eq_true, if_false]
  show wpAny _ _ (Builtin.SmallTypes.ownedTupleIsFree (.ref (b + ls.length + 2)) >>= _) _ _ _
  refine wpAny_bind (wpAny_tupleHeld_zip hz hT fun h₁ hz₁ hs₁ => ?_)
  simp only [Bool.false_eq_true, if_false]
  refine wpAny_bind ?_
  rw [← Array.forIn_toList]
  obtain ⟨r, er⟩ : ∃ r, ((List.range ls.length).map fun j => Value.ref (b + j)) = Value.ref (b + 0) :: r := by
    cases hl : ls.length with
    | zero => omega
    | succ n => rw [List.range_succ_eq_map]; exact ⟨_, rfl⟩
  simp only [er, List.forIn_cons]
  refine wpAny_bind (wpAny_bind (wpAny_holding ?_))
  show wpAny _ _ (Builtin.SmallTypes.nextOf (.ref (b + 0)) >>= _) _ _ _
  have el : ls[0]? = some ls[0] := List.getElem?_eq_getElem (by omega)
  obtain ⟨hlb, xs, exs, o, hl, q⟩ := S.at_ 0 _ el
  have hkx := hx xs (List.mem_of_getElem? exs)
  refine wpAny_bind (nextOf_tuple_end (s := { s with heap := h₁ }) hh ((Z.its 0 _ el).extBut hs₁.extBut (by unfold Addr at *; omega)) (items := xs.toArray) ⟨o, hs₁.extBut _ _ (by unfold Addr at *; omega) hl, q⟩ (by simp; omega) fun h₂ e hs₂ he => ?_)
  exact hE h₂ e (fun c o hc x => hs₂ _ _ (by unfold Addr at *; omega) (hs₁.extBut _ _ (by unfold Addr at *; omega) x)) he
/-- the zip at k, m the length of the tuples; behind the first turn the tuple that was given out is there -/
def ZNow (h : Heap) (b : Addr) (ls : List Addr) (k : Nat) : Prop :=
  ZN h b ls k ∧ ((k = 0 ∧ IsZ h (b + ls.length + 2) (b + ls.length) (b + ls.length + 1) .none false ∧ ∃ vs, h.get? (b + ls.length + 1) = some { cls := .type "tuple", data := .seq (List.toArray vs) } ∧ vs.length = ls.length) ∨
    ∃ (T : Addr) (f : Bool) (oT : Obj), b + ls.length + 2 < T ∧ h.get? T = some oT ∧ IsZ h (b + ls.length + 2) (b + ls.length) (b + ls.length + 1) (rawInt T) f)
theorem ZNow.isz {h : Heap} {b : Addr} {ls : List Addr} {k : Nat} (z : ZNow h b ls k) : ∃ o, h.get? (b + ls.length + 2) = some o ∧ o.cls = .type "zip" := by
  obtain ⟨_, ⟨_, z, _⟩ | ⟨_, _, _, _, _, z⟩⟩ := z
  · exact ⟨_, z, rfl⟩
  · exact ⟨_, z, rfl⟩
theorem ZNow.at {h h' : Heap} {b : Addr} {ls : List Addr} {k : Nat} (z : ZNow h b ls k) (e : ∀ c o, b ≤ c → h.get? c = some o → (c ≤ b + ls.length + 2 → h'.get? c = some o) ∧ ∃ o', h'.get? c = some o') : ZNow h' b ls k := by
  obtain ⟨⟨ti, its⟩, q⟩ := z
  have e1 : ∀ c o, b ≤ c → c ≤ b + ls.length + 2 → h.get? c = some o → h'.get? c = some o := fun c o c0 c1 x => (e c o c0 x).1 c1
  refine ⟨⟨e1 _ _ (by unfold Addr at *; omega) (by unfold Addr at *; omega) ti, fun j l el => (its j l el).at fun o x => e1 _ _ (by unfold Addr at *; omega) (by have := (List.getElem?_eq_some_iff.mp el).1; unfold Addr at *; omega) x⟩, ?_⟩
  rcases q with ⟨k0, z, vs, hv, hl⟩ | ⟨T, f, oT, lt, hT, z⟩
  · exact .inl ⟨k0, e1 _ _ (by unfold Addr at *; omega) (by unfold Addr at *; omega) z, vs, e1 _ _ (by unfold Addr at *; omega) (by unfold Addr at *; omega) hv, hl⟩
  · obtain ⟨o', ho'⟩ := (e T oT (by unfold Addr at *; omega) hT).2
    exact .inr ⟨T, f, o', lt, ho', e1 _ _ (by unfold Addr at *; omega) (by unfold Addr at *; omega) z⟩
theorem pyNext_zn_item {b : Addr} {ls : List Addr} {xss : List (List Value)} {k : Nat} {Q : Option Value → Shared → Prop}
    (hn : 1 ≤ ls.length) (hs : ls.length ≤ 1000) (z : ZNow s.heap b ls k) (S : ZSrc s.heap b ls xss) (hx : ∀ xs ∈ xss, k < xs.length)
    (hQ : ∀ h', ZNow h' b ls (k + 1) → h'.get? s.heap.objs.size = some { cls := .type "tuple", data := .seq (zcol xss k).toArray } → h'.objs.size = s.heap.objs.size + 1 →
      (∀ c o, (c < b ∨ b + ls.length + 2 < c) → s.heap.get? c = some o → h'.get? c = some o) → Q (some (.ref s.heap.objs.size)) { s with heap := h' }) :
    wpAny (model prog w) A (pyNext (.ref (b + ls.length + 2))) Q E s := by
  have hT : s.TypeIs (.ref (b + ls.length + 2)) "zip" := z.isz
  have hzl : b + ls.length + 2 < s.heap.objs.size := by
    obtain ⟨o, e, _⟩ := z.isz
    exact Heap.lt_size e
  unfold pyNext
  refine wpAny_bind (wpAny_attempt (wpAny_callSpecial?_slot (name := Str.ofString "__next__") hT F.slot_zip_next
    (wpAny_call_entry F.slot_zip_next hT F.entry_zip_next ?_ (F.args_zip_next_1 _))))
  obtain ⟨Z, ⟨rfl, z, vs, hv, hl⟩ | ⟨T, f, oT, lt, hT, z⟩⟩ := z
  · exact zn_next_first hn hs z Z S hv hl hx fun h' a1 a2 a3 a4 a5 => wpAny_pure (hQ h' ⟨a2, .inr ⟨_, _, _, hzl, a3, a1⟩⟩ a3 a4 a5)
  · exact zn_next_held hn hs z hT Z S hx fun h' a1 a2 a3 a4 a5 => wpAny_pure (hQ h' ⟨a2, .inr ⟨_, _, _, lt, a5 _ _ (.inr lt) hT, a1⟩⟩ a3 a4 a5)
theorem pyNext_zn_end {b : Addr} {ls : List Addr} {xss : List (List Value)} {k : Nat} {Q : Option Value → Shared → Prop} (hh : A.handled = none)
    (hn : 1 ≤ ls.length) (hk : 0 < k) (z : ZNow s.heap b ls k) (S : ZSrc s.heap b ls xss) (hx : ∀ xs ∈ xss, xs.length ≤ k)
    (hQ : ∀ h', (∀ c o, (c < b ∨ b + ls.length + 2 < c) → s.heap.get? c = some o → h'.get? c = some o) → Q none { s with heap := h' }) :
    wpAny (model prog w) A (pyNext (.ref (b + ls.length + 2))) Q E s := by
  have hT : s.TypeIs (.ref (b + ls.length + 2)) "zip" := z.isz
  unfold pyNext
  refine wpAny_bind (wpAny_attempt (wpAny_callSpecial?_slot (name := Str.ofString "__next__") hT F.slot_zip_next
    (wpAny_call_entry F.slot_zip_next hT F.entry_zip_next ?_ (F.args_zip_next_1 _))))
  obtain ⟨Z, ⟨rfl, z, vs, hv, hl⟩ | ⟨T, f, oT, lt, hT, z⟩⟩ := z
  · exact absurd hk (Nat.lt_irrefl _)
  · refine zn_next_end hh hn z hT Z S hx fun h' e kp he => ?_
    obtain ⟨o, ho, hc⟩ := he
    refine wpAny_bind (wpAny_isInstance (T := "StopIteration") (b := true) ⟨o, ho, hc⟩ isSubtype_stop ?_)
    exact wpAny_pure (hQ _ kp)
end
end PySem
namespace PySem
open Sem (wp)
open RZ
section
variable {prog : Program} {w : World} {A : Around} {E : Value → Shared → Prop} {s : Shared} {R : Result → Shared → Prop}
/-- the refs of what was given out -/
def zrefs (T0 : Addr) (i : Nat) : List Value := (List.range i).map fun j => Value.ref (T0 + j)
theorem zrefs_succ (T0 : Addr) (i : Nat) : zrefs T0 (i + 1) = zrefs T0 i ++ [.ref (T0 + i)] := by
  unfold zrefs
  rw [List.range_succ, List.map_append]
  rfl
theorem zrefs_len (T0 : Addr) (i : Nat) : (zrefs T0 i).length = i := by
  unfold zrefs
  rw [List.length_map, List.length_range]
theorem zn_extend (hh : A.in1.handled = none) {b L T0 : Addr} {ls : List Addr} {xss : List (List Value)} {m : Nat} (res : Value) (hn : 1 ≤ ls.length) (hs : ls.length ≤ 1000) (hm : 1 ≤ m) (hm2 : m ≤ 1000) (hx : ∀ xs ∈ xss, xs.length = m)
    (hL : b + ls.length + 2 < L) (hL2 : L < T0) :
    ∀ (k i : Nat) (s : Shared), m - i = k → i ≤ m → ZNow s.heap b ls i → ZSrc s.heap b ls xss → s.heap.objs.size = T0 + i → (∃ c, s.heap.get? L = some { cls := .type "list", dict := none, data := .seq (zrefs T0 i).toArray c, slots := #[] }) →
    (∀ j, j < i → s.heap.get? (T0 + j) = some { cls := .type "tuple", data := .seq (zcol xss j).toArray }) →
    (∀ h' c', h'.get? L = some { cls := .type "list", dict := none, data := .seq (zrefs T0 m).toArray c', slots := #[] } → (∀ j, j < m → h'.get? (T0 + j) = some { cls := .type "tuple", data := .seq (zcol xss j).toArray }) →
      (∀ c o, c < b → s.heap.get? c = some o → h'.get? c = some o) → R (.ok (.ret res)) { s with heap := h' }) →
    codeAny (model prog w) A (.builtin "list.extend.loop" ⟨[.ref L, .ref (b + ls.length + 2), res], []⟩) R s := by
  have hb : (1000 : Nat) < sizeLine := by decide
  intro k
  induction k with
  | zero =>
    intro i s hk hi hz S hsz ⟨c, hS⟩ hT hR
    have hin : i = m := by omega
    subst hin
    refine codeAny_builtin F.entry_extend_loop ?_
    rw [Around.under_plainId F.plain_extend_loop _]
    show wpAny _ A.in1 (pyNext (.ref (b + ls.length + 2)) >>= _) _ _ s
    refine wpAny_bind (pyNext_zn_end hh hn (by omega) hz S (fun xs q => Nat.le_of_eq (hx xs q)) fun h' hk => ?_)
    exact wpAny_pure (hR h' c (hk _ _ (.inr hL) hS) (fun j hj => hk _ _ (.inr (by unfold Addr at *; omega)) (hT j hj)) fun c o hc e => hk _ _ (.inl hc) e)
  | succ k ih =>
    intro i s hk hi hz S hsz ⟨c, hS⟩ hT hR
    have hlt : i < m := by omega
    refine codeAny_builtin F.entry_extend_loop ?_
    rw [Around.under_plainId F.plain_extend_loop _]
    show wpAny _ A.in1 (pyNext (.ref (b + ls.length + 2)) >>= _) _ _ s
    refine wpAny_bind (pyNext_zn_item hn hs hz S (fun xs q => by rw [hx xs q]; exact hlt) fun h' hz' hT' hsz' hk' => ?_)
    have hS' := hk' _ _ (.inr hL) hS
    show wpAny _ A.in1 (updateSeq L (·.push (.ref s.heap.objs.size)) >>= _) _ _ _
    refine wpAny_bind ?_
    refine wpAny_updateSeq (s := { s with heap := h' }) hS' rfl (wpAny_pure ⟨plainId_quiet F.plain_extend_loop _, ih (i + 1) _ (by omega) hlt ?_ ?_ ?_ ?_ ?_ ?_⟩)
      (by rw [List.size_toArray, zrefs_len]; omega) (by rw [Array.size_push, List.size_toArray, zrefs_len]; omega)
    · refine hz'.at fun c o c0 e => ⟨fun c1 => (Heap.get?_update_other _ _ (by unfold Addr at *; omega)).trans e, ?_⟩
      by_cases hc : L = c
      · subst hc
        exact ⟨_, Heap.get?_update_self _ e (by rw [hS'] at e; cases e; rfl)⟩
      · exact ⟨o, (Heap.get?_update_other _ _ hc).trans e⟩
    · refine ⟨S.len, fun j l e => ?_⟩
      obtain ⟨h1, xs, h2, o, h3, h4⟩ := S.at_ j l e
      exact ⟨h1, xs, h2, o, (Heap.get?_update_other _ _ (by unfold Addr at *; omega)).trans (hk' _ _ (.inl h1) h3), h4⟩
    · show (h'.update L _).objs.size = _
      have e1 : (h'.update L (Obj.mapSeq (·.push (.ref s.heap.objs.size)))).objs.size = h'.objs.size := (Heap.SameBut.update (h := h') ..).1
      rw [e1, hsz', hsz]
      rfl
    · rw [zrefs_succ, ← hsz]
      have key := Heap.get?_update_self (Obj.mapSeq (·.push (.ref s.heap.objs.size))) hS' rfl
      simp only [Obj.mapSeq, List.push_toArray] at key
      exact ⟨_, key⟩
    · intro j hj
      refine (Heap.get?_update_other _ _ (by unfold Addr at *; omega)).trans ?_
      by_cases hj' : j = i
      · subst hj'
        rw [← hsz]
        exact hT'
      · exact hk' _ _ (.inr (by unfold Addr at *; omega)) (hT j (by omega))
    · intro h'' c' q1 q2 q3
      exact hR h'' c' q1 q2 fun c o hc e => q3 c o hc ((Heap.get?_update_other _ _ (by unfold Addr at *; omega)).trans (hk' _ _ (.inl hc) e))
end
end PySem
namespace PySem
open Sem (wp)
open RZ
namespace F
theorem zip_no_len : typeLookup (.type "zip") "__len__" = pure none := by rw [typeLookup_type, builtinLookup_eq_fast]; kernel_rfl
theorem zip_no_hint : typeLookup (.type "zip") "__length_hint__" = pure none := by rw [typeLookup_type, builtinLookup_eq_fast]; kernel_rfl
end F
section
variable {prog : Program} {w : World} {A : Around} {E : Value → Shared → Prop} {s : Shared} {R : Result → Shared → Prop}
theorem call_list_zn (hh : A.in1.in1.handled = none) {b : Addr} {ls : List Addr} {xss : List (List Value)} {m : Nat} {Q : Value → Shared → Prop} (hn : 1 ≤ ls.length) (hs : ls.length ≤ 1000) (hm : 1 ≤ m) (hm2 : m ≤ 1000) (hx : ∀ xs ∈ xss, xs.length = m)
    (hz : ZNow s.heap b ls 0) (hz0 : IsZ s.heap (b + ls.length + 2) (b + ls.length) (b + ls.length + 1) .none false) (S : ZSrc s.heap b ls xss)
    (hQ : ∀ h' c', h'.get? s.heap.objs.size = some { cls := .type "list", dict := none, data := .seq (zrefs (s.heap.objs.size + 1) m).toArray c', slots := #[] } → (∀ j, j < m → h'.get? (s.heap.objs.size + 1 + j) = some { cls := .type "tuple", data := .seq (zcol xss j).toArray }) →
      (∀ c o, c < b → s.heap.get? c = some o → h'.get? c = some o) → Q (.ref s.heap.objs.size) { s with heap := h' }) :
    wpAny (model prog w) A (call (.type "list") [.ref (b + ls.length + 2)]) Q E s := by
  have hzl : b + ls.length + 2 < s.heap.objs.size := by
    obtain ⟨o, e, _⟩ := hz.isz
    exact Heap.lt_size e
  refine callType_codes (Q₁ := fun obj s₁ => obj = .ref s.heap.objs.size ∧ s₁ = { s with heap := s.heap.push { cls := .type "list", data := .seq #[] } }) F.called_list (F.typeCall_list_1 _) F.entry_list_init
    (code_list_new _ ⟨rfl, rfl⟩) fun obj s₁ h₁ => ?_
  obtain ⟨rfl, rfl⟩ := h₁
  have hS : (s.heap.push { cls := .type "list", data := .seq #[] }).get? s.heap.objs.size = some { cls := .type "list", data := .seq #[] } := Heap.get?_push_size _ rfl
  refine ⟨⟨_, hS, rfl⟩, F.args_list_init_2 _ _, ?_⟩
  generalize hL : s.heap.objs.size = L at *
  have up1 : ∀ c o, s.heap.get? c = some o → (s.heap.push { cls := .type "list", data := .seq #[] }).get? c = some o := fun c o e => Heap.get?_push_of_some _ e
  show wpAny _ A.in1.in1 (do let old ← Builtin.List.listItems (.ref L); Builtin.List.listUpdate (.ref L) (fun _ => #[]); letGo old.toList.reverse; Builtin.List.listExtendWith (.ref L) (.ref (b + ls.length + 2)) .none) _ _ _
  refine wpAny_bind ?_
  unfold Builtin.List.listItems
  refine wpAny_bind (wpAny_seqItems hS rfl (wpAny_pure ?_))
  show wpAny _ A.in1.in1 (updateSeq L (fun _ => #[]) >>= fun _ => letGo (#[] : Array Value).toList.reverse >>= fun _ => Builtin.List.listExtendWith (.ref L) (.ref (b + ls.length + 2)) .none) _ _ _
  refine wpAny_bind (wpAny_updateSeq hS rfl ?_)
  have hS₂ := Heap.get?_update_self (Obj.mapSeq (fun _ => (#[] : Array Value))) hS rfl
  have oth : ∀ b o, b ≠ L → (s.heap.push { cls := .type "list", data := .seq #[] }).get? b = some o → ((s.heap.push { cls := .type "list", data := .seq #[] }).update L (Obj.mapSeq (fun _ => (#[] : Array Value)))).get? b = some o :=
    fun b o hb e => (Heap.get?_update_other _ _ (Ne.symm hb)).trans e
  have sz2 : ((s.heap.push { cls := .type "list", data := .seq #[] }).update L (Obj.mapSeq (fun _ => (#[] : Array Value)))).objs.size = L + 1 := by
    rw [(Heap.SameBut.update (h := s.heap.push { cls := .type "list", data := .seq #[] }) ..).1, Heap.size_push, hL]
  generalize ((s.heap.push { cls := .type "list", data := .seq #[] }).update L (Obj.mapSeq (fun _ => (#[] : Array Value)))) = h2 at *
  refine wpAny_bind (wpAny_letGo ?_)
  have k2 : ∀ c o, c < L → s.heap.get? c = some o → h2.get? c = some o := fun c o hc e => oth c o (Nat.ne_of_lt hc) (up1 c o e)
  have hz2 : ZNow h2 b ls 0 := hz.at fun c o c0 e => by
    have hc : c < L := hL ▸ Heap.lt_size e
    exact ⟨fun _ => k2 c o hc e, o, k2 c o hc e⟩
  have S2 : ZSrc h2 b ls xss := ⟨S.len, fun j l e => by
    obtain ⟨h1, xs, h2', o, h3, h4⟩ := S.at_ j l e
    exact ⟨h1, xs, h2', o, k2 _ _ (hL ▸ Heap.lt_size h3) h3, h4⟩⟩
  have hTy : (Shared.mk h2 s.gens s.drawn s.toks s.os).TypeIs (.ref (b + ls.length + 2)) "zip" := hz2.isz
  have hLz : L ≠ b + ls.length + 2 := Nat.ne_of_gt hzl
  show wpAny _ _ _ _ _ (Shared.mk h2 s.gens s.drawn s.toks s.os)
  unfold Builtin.List.listExtendWith
  refine wpAny_bind (wpAny_typeOf hTy ?_)
  have h1 : Builtin.List.listSameRef (.ref L) (.ref (b + ls.length + 2)) = false := by simp [Builtin.List.listSameRef, hLz]
  have h2' : (Value.type "zip" == Value.type "list") = false := by decide
  have h3 : (Value.type "zip" == Value.type "tuple") = false := by decide
  simp only [h1, h2', h3, Bool.or_false, Bool.false_eq_true, if_false]
  refine wpAny_bind (wpAny_pyIter_zip (s := Shared.mk h2 s.gens s.drawn s.toks s.os) (k2 _ _ hzl hz0) ?_)
  refine wpAny_bind (wpAny_holding ?_)
  unfold Builtin.List.listLengthHint
  refine wpAny_bind (wpAny_specialOf hTy F.zip_no_len ?_)
  show wpAny _ A.in1.in1 (specialOf (Value.ref (b + ls.length + 2)) (Str.ofString "__length_hint__") >>= _) _ _ _
  refine wpAny_bind (wpAny_specialOf hTy F.zip_no_hint ?_)
  refine wpAny_pure ?_
  show wpAny _ A.in1.in1 (rule "list.extend.makes-room" >>= fun _ => Builtin.List.listTouch (.ref L) >>= fun _ =>
    again (.builtin "list.extend.loop" ⟨[.ref L, .ref (b + ls.length + 2), .none], []⟩)) _ _ _
  refine wpAny_bind (wpAny_rule ?_)
  refine wpAny_bind ?_
  show wpAny _ A.in1.in1 (updateSeq L (·.push .none) >>= fun _ => updateSeq L (·.pop)) _ _ _
  refine wpAny_bind (wpAny_updateSeq hS₂ rfl ?_)
  have hS₃ := Heap.get?_update_self (Obj.mapSeq (·.push Value.none)) hS₂ rfl
  refine wpAny_updateSeq (hz := by seq_fits) hS₃ rfl ?_
  have hS₄ := Heap.get?_update_self (Obj.mapSeq (·.pop)) hS₃ rfl
  have oth3 : ∀ b o, b ≠ L → h2.get? b = some o → ((h2.update L (Obj.mapSeq (·.push Value.none))).update L (Obj.mapSeq (·.pop))).get? b = some o :=
    fun b o hb e => (Heap.get?_update_other _ _ (Ne.symm hb)).trans ((Heap.get?_update_other _ _ (Ne.symm hb)).trans e)
  have sz3 : ((h2.update L (Obj.mapSeq (·.push Value.none))).update L (Obj.mapSeq (·.pop))).objs.size = L + 1 := by
    rw [(Heap.SameBut.update (h := h2.update L (Obj.mapSeq (·.push Value.none))) ..).1, (Heap.SameBut.update (h := h2) ..).1, sz2]
  have k3 : ∀ c o, c < L → s.heap.get? c = some o → ((h2.update L (Obj.mapSeq (·.push Value.none))).update L (Obj.mapSeq (·.pop))).get? c = some o := fun c o hc e => oth3 c o (Nat.ne_of_lt hc) (k2 c o hc e)
  refine wpAny_pure ⟨plainId_quiet F.plain_extend_loop _, zn_extend (T0 := L + 1) hh .none hn hs hm hm2 hx hzl (Nat.lt_succ_self _) m 0 _ rfl (Nat.zero_le _) (hz.at fun c o c0 e => ?_) ⟨S.len, fun j l e => ?_⟩ (by rw [sz3]) ?_ (fun j hj => (Nat.not_lt_zero _ hj).elim) fun h' c' q1 q2 q3 => ?_⟩
  · have hc : c < L := hL ▸ Heap.lt_size e
    exact ⟨fun _ => k3 c o hc e, o, k3 c o hc e⟩
  · obtain ⟨h1, xs, h2', o, h3, h4⟩ := S.at_ j l e
    exact ⟨h1, xs, h2', o, k3 _ _ (hL ▸ Heap.lt_size h3) h3, h4⟩
  · have key := hS₄
    simp only [Obj.mapSeq] at key
    exact ⟨_, key⟩
  · exact ⟨rfl, hQ h' c' q1 q2 fun c o hc e => q3 c o hc (k3 c o (hL ▸ Heap.lt_size e) e)⟩
end
end PySem
namespace PySem
open Sem (wp)
open RZ
namespace F
theorem typeCall_zip_n (us : List Value) : checkTypeCall "zip" ⟨us, []⟩ = pure () := by kernel_rfl
theorem newCall_zip_n : ∀ us : List Value, us.length ≤ 6 → checkBuiltinCall "zip.__new__" ⟨.type "zip" :: us, []⟩ = pure ()
  | [], _ => by kernel_rfl
  | [_], _ => by kernel_rfl
  | [_, _], _ => by kernel_rfl
  | [_, _, _], _ => by kernel_rfl
  | [_, _, _, _], _ => by kernel_rfl
  | [_, _, _, _, _], _ => by kernel_rfl
  | [_, _, _, _, _, _], _ => by kernel_rfl
  | _ :: _ :: _ :: _ :: _ :: _ :: _ :: _, h => absurd h (by simp only [List.length_cons]; omega)
theorem args_object_init_n (us : List Value) : argsOk "object.__init__" ⟨us, []⟩ := by
  unfold argsOk; rw [signature?_of (id := "object.__init__") (n := ['_', '_', 't', 'i', 'n', 'i', '_', '_']) (o := ['t', 'c', 'e', 'j', 'b', 'o']) (by kernel_rfl) owner_object]; kernel_rfl
end F
section
variable {prog : Program} {w : World} {A : Around} {E : Value → Shared → Prop} {s : Shared} {R : Result → Shared → Prop}
theorem iterAll_tups {ls : List Addr} {Q : List Value → Shared → Prop} (h : ∀ l ∈ ls, ∃ xs, s.heap.IsTuple l xs)
    (hQ : ∀ h', h'.objs.size = s.heap.objs.size + ls.length → (∀ (j : Nat) l, ls[j]? = some l → h'.IsTupleIter (s.heap.objs.size + j) l 0) → (∀ c o, s.heap.get? c = some o → h'.get? c = some o) →
      Q ((List.range ls.length).map fun j => Value.ref (s.heap.objs.size + j)) { s with heap := h' }) :
    wpAny (model prog w) A (Builtin.SmallTypes.iterAll (ls.map Value.ref)) Q E s := by
  unfold Builtin.SmallTypes.iterAll
  refine wpAny_bind ?_
  refine wpAny_forIn_list _ (fun (rest : List Value) bb s' => ∃ i, rest = (ls.map Value.ref).drop i ∧ i ≤ ls.length ∧ (∃ h', s' = { s with heap := h' } ∧ h'.objs.size = s.heap.objs.size + i ∧ (∀ (j : Nat) l, j < i → ls[j]? = some l → h'.IsTupleIter (s.heap.objs.size + j) l 0) ∧
    (∀ c o, s.heap.get? c = some o → h'.get? c = some o)) ∧ bb = ((List.range i).map fun j => Value.ref (s.heap.objs.size + j)).toArray) _ ?_ ?_ _ _ ⟨0, rfl, Nat.zero_le _, ⟨s.heap, rfl, rfl, fun j l z => (Nat.not_lt_zero _ z).elim, fun _ _ e => e⟩, rfl⟩
  · rintro x rest bb s' ⟨i, er, hi, ⟨h', rfl, hsz, hit, hk⟩, rfl⟩
    obtain ⟨h1, h2, h3⟩ := zn_drop er.symm
    rw [List.length_map] at h1
    rw [List.getElem?_map] at h2
    have el : ls[i]? = some ls[i] := List.getElem?_eq_getElem h1
    rw [el] at h2
    have ex : Value.ref ls[i] = x := Option.some.inj h2
    subst ex
    obtain ⟨xs, o, ho, q⟩ := h _ (List.mem_of_getElem? el)
    refine wpAny_bind (wpAny_holding (wpAny_pyIter_tuple (s := { s with heap := h' }) ⟨o, hk _ _ ho, q⟩ (wpAny_pure ?_)))
    refine ⟨i + 1, h3.symm, h1, ⟨_, rfl, by rw [Heap.size_push, hsz]; rfl, fun j l hj e => ?_, fun c o e => Heap.get?_push_of_some _ (hk c o e)⟩, ?_⟩
    · by_cases hj' : j = i
      · subst hj'
        rw [el] at e
        cases e
        have := Heap.get?_push_size h' (o := { cls := .type "tuple_iterator", data := .fields #[.ref ls[j], .int 0 0] }) rfl
        rw [hsz] at this
        exact ⟨_, this, rfl, rfl⟩
      · exact (hit j l (by omega) e).at fun o q => Heap.get?_push_of_some _ q
    · rw [List.range_succ, List.map_append]
      show (((List.range i).map fun j => Value.ref (s.heap.objs.size + j)).toArray).push (.ref h'.objs.size) = _
      rw [hsz]
      simp
  · rintro bb s' ⟨i, er, hi, ⟨h', rfl, hsz, hit, hk⟩, rfl⟩
    have ei : i = ls.length := by
      have : ((ls.map Value.ref).drop i).length = 0 := by rw [← er]; rfl
      rw [List.length_drop, List.length_map] at this
      omega
    subst ei
    exact wpAny_pure (hQ h' hsz (fun j l e => hit j l (List.getElem?_eq_some_iff.mp e).1 e) hk)
theorem meets_zip_n (ls : List Addr) :
    Meets (Builtin.«zip.__new__» ⟨.type "zip" :: ls.map Value.ref, []⟩) (fun _ R s => ls.length ≤ 1000 ∧ (∀ l ∈ ls, ∃ xs, s.heap.IsTuple l xs) ∧
      ∀ h', IsZ h' (s.heap.objs.size + ls.length + 2) (s.heap.objs.size + ls.length) (s.heap.objs.size + ls.length + 1) .none false → ZNow h' s.heap.objs.size ls 0 → (∀ c o, s.heap.get? c = some o → h'.get? c = some o) →
        R (.ok (.ret (.ref (s.heap.objs.size + ls.length + 2)))) { s with heap := h' }) :=
  .of_wp fun prog w A R s h => by
    obtain ⟨hs, hl, h⟩ := h
    have hb : (1000 : Nat) ≤ sizeLine := by decide
    have hsub := sub_zip
    unfold Builtin.«zip.__new__»
    refine wpAny_bind (wpAny_mono (Q := fun r s' => r = (Value.type "zip", ls.map Value.ref) ∧ s' = s) (E := fun _ _ => False) ?_ ?_ (fun _ _ z => z.elim))
    · unfold Builtin.SmallTypes.newClass
      repeat (any_goals (first | assumption | wp_step))
      exact ⟨rfl, rfl⟩
    · rintro a b ⟨ea, eb⟩
      subst ea eb
      show wpAny _ _ (Builtin.SmallTypes.iterAll (ls.map Value.ref) >>= _) _ _ _
      refine wpAny_bind (iterAll_tups hl fun h1 sz1 it1 k1 => ?_)
      refine wpAny_bind (wpAny_newTuple ?_ (by simp; omega))
      refine wpAny_bind (wpAny_newTuple ?_ (by simp; omega))
      refine wpAny_bind ?_
      show wpAny _ _ (newObj (.type "zip") (.fields #[.none, .bool false, .bool false, .ref h1.objs.size, .ref (h1.push _).objs.size])) _ _ _
      refine wpAny_newObj_type (wpAny_pure ⟨_, rfl, ?_⟩)
      generalize e2 : h1.push ({ cls := .type "tuple", data := .seq ((List.range ls.length).map fun j => Value.ref (b.heap.objs.size + j)).toArray } : Obj) = h2
      generalize e3 : h2.push ({ cls := .type "tuple", data := .seq (((List.range ls.length).map fun j => Value.ref (b.heap.objs.size + j)).map fun _ => Value.none).toArray } : Obj) = h3
      have z2 : h2.objs.size = b.heap.objs.size + ls.length + 1 := by rw [← e2, Heap.size_push, sz1]
      have z3 : h3.objs.size = b.heap.objs.size + ls.length + 2 := by rw [← e3, Heap.size_push, z2]
      show R (.ok (.ret (.ref h3.objs.size))) { b with heap := h3.push { cls := .type "zip", data := .fields #[.none, .bool false, .bool false, .ref h1.objs.size, .ref h2.objs.size] } }
      have g1 : h2.get? h1.objs.size = some _ := e2 ▸ Heap.get?_push_size _ rfl
      have g2 : h3.get? h2.objs.size = some _ := e3 ▸ Heap.get?_push_size _ rfl
      have g3 : (h3.push { cls := .type "zip", data := .fields #[.none, .bool false, .bool false, .ref h1.objs.size, .ref h2.objs.size] }).get? h3.objs.size = some _ := Heap.get?_push_size _ rfl
      have u1 : ∀ c o, h1.get? c = some o → h2.get? c = some o := fun c o e => e2 ▸ Heap.get?_push_of_some _ e
      have u2 : ∀ c o, h2.get? c = some o → h3.get? c = some o := fun c o e => e3 ▸ Heap.get?_push_of_some _ e
      rw [sz1, z2] at g3 ⊢
      rw [sz1] at g1
      rw [z2] at g2
      rw [z3] at g3 ⊢
      have u3 : ∀ c o, h1.get? c = some o → (h3.push ({ cls := .type "zip", data := .fields #[.none, .bool false, .bool false, .ref (b.heap.objs.size + ls.length), .ref (b.heap.objs.size + ls.length + 1)] } : Obj)).get? c = some o := fun c o e => Heap.get?_push_of_some _ (u2 _ _ (u1 _ _ e))
      exact h _ g3 ⟨⟨Heap.get?_push_of_some _ (u2 _ _ g1), fun j l e => (it1 j l e).at fun o q => u3 _ _ q⟩, .inl ⟨rfl, g3, _, Heap.get?_push_of_some _ g2, by rw [List.length_map, List.length_map, List.length_range]⟩⟩ fun c o e => u3 _ _ (k1 _ _ e)
section
variable {prog : Program} {w : World} {A : Around} {E : Value → Shared → Prop} {s : Shared}
theorem call_zip_n {ls : List Addr} {Q : Value → Shared → Prop} (hs : ls.length ≤ 6) (h : ∀ l ∈ ls, ∃ xs, s.heap.IsTuple l xs)
    (hQ : ∀ h', IsZ h' (s.heap.objs.size + ls.length + 2) (s.heap.objs.size + ls.length) (s.heap.objs.size + ls.length + 1) .none false → ZNow h' s.heap.objs.size ls 0 → (∀ c o, s.heap.get? c = some o → h'.get? c = some o) →
      Q (.ref (s.heap.objs.size + ls.length + 2)) { s with heap := h' }) :
    wpAny (model prog w) A (call (.type "zip") (ls.map Value.ref)) Q E s := by
  refine callType_new F.called_zip (by decide) (F.typeCall_zip_n _) (F.newCall_zip_n _ (by rw [List.length_map]; exact hs)) (fun obj => F.args_object_init_n _) F.entry_zip_new (meets_zip_n ls) ⟨by omega, h, fun h' a b c => ?_⟩
  exact ⟨⟨_, a, rfl⟩, hQ h' a b c⟩
end
end
end PySem
namespace Bk
open PySem PySem.Spec PyProof.Rows L2
/-- what stands behind list(zip(..)): the list at L, the columns behind it -/
def newCols (H : Hp) (L : Addr) (cols : List (List V)) : Hp := fun b =>
  if b = L then some (.lst ((List.range cols.length).map fun j => V.ref (L + 1 + j)))
  else if L < b ∧ b < L + 1 + cols.length then some (.tup (cols.getD (b - (L + 1)) [])) else H b
abbrev vcol (xss : List (List V)) (k : Nat) : List V := xss.map fun xs => xs.getD k .non
abbrev vcols (xss : List (List V)) (m : Nat) : List (List V) := (List.range m).map (vcol xss)
theorem vcol_vals {k m : Nat} (hk : k < m) : ∀ {xv : List (List V)} {xs : List (List Value)}, Paired Vals xv xs → (∀ x ∈ xv, x.length = m) → Vals (vcol xv k) (zcol xs k)
  | _, _, .nil, _ => .nil
  | x :: xv, y :: ys, .cons r t, h => by
    refine .cons ?_ (vcol_vals hk t fun x q => h x (List.mem_cons_of_mem _ q))
    have hkx : k < x.length := by rw [h x List.mem_cons_self]; exact hk
    have hx : x[k]? = some x[k] := List.getElem?_eq_getElem hkx
    obtain ⟨u, hu, ru⟩ := Vals.get r hx
    show RelV (x.getD k V.non) (y.getD k Value.none)
    rw [List.getD_eq_getElem?_getD, List.getD_eq_getElem?_getD, hx, hu]
    exact ru
section
variable {X : Cx} {pins : List (Addr × Obj)} {σ : L2.St} {H : Hp} {s : Shared}
theorem rows_read (I : Inv X pins σ H s) : ∀ {rs : List Addr} {xv : List (List V)}, Paired (fun r xs => SqT X.K H r xs) rs xv →
    ∃ xss : List (List Value), Paired Vals xv xss ∧ rs.length = xss.length ∧ ∀ (j : Nat) r, rs[j]? = some r → ∃ xs, xss[j]? = some xs ∧ s.heap.IsTuple r xs.toArray
  | _, _, .nil => ⟨[], .nil, rfl, fun j r e => by simp at e⟩
  | _, _, .cons h t => by
    obtain ⟨xss, p, l, q⟩ := rows_read I t
    obtain ⟨its, rv, pt, _⟩ := I.tuple h
    refine ⟨its :: xss, .cons rv p, by simp [l], fun j r e => ?_⟩
    cases j with
    | zero =>
      have : _ = r := Option.some.inj e
      subst this
      exact ⟨its, rfl, pt⟩
    | succ j => exact q j r e
theorem refs_of : ∀ {rs : List Addr} {us : List Value}, Vals (rs.map V.ref) us → us = rs.map Value.ref
  | [], _, .nil => rfl
  | r :: rs, _, .cons a t => by
    rw [refs_of t]
    rw [show _ = Value.ref r from a]
    rfl
theorem paired_all {α β : Type} {F : α → β → Prop} : ∀ {xs : List α} {ys : List β}, Paired F xs ys → ∀ y ∈ ys, ∃ x ∈ xs, F x y
  | _, _, .nil, y, h => nomatch h
  | _, _, .cons r t, y, h => by
    rcases List.mem_cons.mp h with e | e
    · subst e
      exact ⟨_, List.mem_cons_self, r⟩
    · obtain ⟨x, hx, q⟩ := paired_all t y e
      exact ⟨x, List.mem_cons_of_mem _ hx, q⟩
theorem zrefs_vals (L m : Nat) : Vals ((List.range m).map fun j => V.ref (L + 1 + j)) (zrefs (L + 1) m) := by
  unfold zrefs
  generalize List.range m = l
  induction l with
  | nil => exact .nil
  | cons a l ih => exact .cons rfl ih
theorem newCols_at {H : Hp} {L : Nat} {cols : List (List V)} : newCols H L cols L = some (.lst ((List.range cols.length).map fun j => V.ref (L + 1 + j))) := if_pos rfl
theorem newCols_col {H : Hp} {L : Nat} {cols : List (List V)} {j : Nat} {c : List V} (h : cols[j]? = some c) : newCols H L cols (L + 1 + j) = some (.tup c) := by
  have hj := (List.getElem?_eq_some_iff.mp h).1
  unfold newCols
  rw [if_neg (show ¬ (L + 1 + j = L) by omega), if_pos (show L < L + 1 + j ∧ L + 1 + j < L + 1 + cols.length by omega), show L + 1 + j - (L + 1) = j by omega, List.getD_eq_getElem?_getD, h]
  rfl
theorem newCols_old {H : Hp} {L b : Nat} {cols : List (List V)} (h : b < L) : newCols H L cols b = H b := by
  unfold newCols
  rw [if_neg (show ¬ (b = L) by omega), if_neg (show ¬ (L < b ∧ b < L + 1 + cols.length) by omega)]
/-- the new things tracked -/
theorem Inv.cols {h' : Heap} {L : Nat} {cols : List (List V)} {vcs : Nat → List Value} {c' : Nat} {u : Nat} (I : Inv X pins σ H s) (k : ∀ b o, s.heap.get? b = some o → h'.get? b = some o) (hL : s.heap.objs.size ≤ L)
    (h0 : h'.get? L = some { cls := .type "list", dict := none, data := .seq (zrefs (L + 1) cols.length).toArray c', slots := #[] }) (h1 : ∀ j, j < cols.length → h'.get? (L + 1 + j) = some { cls := .type "tuple", data := .seq (vcs j).toArray })
    (hv : ∀ (j : Nat) c, cols[j]? = some c → Vals c (vcs j) ∧ c.length ≤ sizeLine) (hz : cols.length ≤ sizeLine) : Inv X pins σ (newCols H L cols) { s with heap := h', toks := u } := by
  have old : ∀ b o, H b = some o → newCols H L cols b = some o := fun b o e => by
    rw [newCols_old (Nat.lt_of_lt_of_le (I.hok.lt e) hL)]
    exact e
  have oldh : ∀ b o, s.heap.get? b = some o → newCols H L cols b = H b := fun b o e => newCols_old (Nat.lt_of_lt_of_le (Heap.lt_size e) hL)
  refine I.un ⟨fun b o e _ _ _ => k b o e, fun b o e _ _ _ => ⟨o.slots, k b o e⟩, fun b o e n _ => by rw [oldh b o e]; exact n, fun b o e _ => ⟨o, k b o e⟩, fun b xs e => old _ _ e, fun b o u e => old _ _ e, fun b ps e => ⟨#[], by rw [old _ _ e]; simp⟩⟩ ?_
  intro b o e
  by_cases hb : b = L
  · subst hb
    rw [newCols_at] at e
    cases e
    exact ⟨by rw [List.length_map, List.length_range]; exact hz, _, c', zrefs_vals _ _, h0⟩
  · by_cases hb2 : L < b ∧ b < L + 1 + cols.length
    · obtain ⟨j, rfl⟩ : ∃ j, b = L + 1 + j := ⟨(b : Nat) - (L + 1), by unfold Addr at *; omega⟩
      have hj : j < cols.length := by unfold Addr at *; omega
      have ec : cols[j]? = some cols[j] := List.getElem?_eq_getElem hj
      rw [newCols_col ec] at e
      cases e
      exact ⟨(hv j _ ec).2, _, (hv j _ ec).1, _, h1 j hj, rfl, _, rfl⟩
    · have e' : newCols H L cols b = H b := by
        unfold newCols
        rw [if_neg hb, if_neg hb2]
      rw [e'] at e
      exact (I.hok b o e).stay (fun c v _ q => k c v q) (fun c q => old _ _ q) fun c xs q => old _ _ q
end
def tListZip (K : PySem.W.Frag) (te : TE) : TE := fun σ H Q => te σ H fun x H1 => ∃ (a : Addr) (rs : List Addr) (xv : List (List V)) (m : Nat), x = .ref a ∧ SqT K H1 a (rs.map V.ref) ∧ Paired (fun r xs => SqT K H1 r xs) rs xv ∧ 1 ≤ rs.length ∧ rs.length ≤ 6 ∧ 1 ≤ m ∧ m ≤ 1000 ∧ (∀ xs ∈ xv, xs.length = m) ∧
  ∀ L, (∀ b, L ≤ b → H1 b = none) → Q (.ref L) (newCols H1 L (vcols xv m))
theorem callWith_starTy {M : Model} {A : Around} {E : Value → Shared → Prop} {s : Shared} {env : Env} {pos p : Pos} {T : String} {e : Expr} {Q : Value → Shared → Prop} (h : wpAny M A (eval e env) (fun v s₁ => PySem.W.StarOf M A E v (fun vs s₂ => wpAny M A (call (.type T) vs) Q E s₂) s₁) E s)
    (he : starEach [.Starred e p] env = [(true, eval e env)] := by rfl) : wpAny M A (callWith pos (.type T) [] (backTo pos (starEach [.Starred e p] env)) []) Q E s := by
  rw [he]
  refine PySem.W.ks_call (P := fun _ => True) rfl (fun h _ => ⟨.machine, .inr (.inl rfl), fun A Q E s _ q => wpAny_pure q⟩) ?_
  refine PySem.W.ks_lone ?_
  refine wpAny_mono h (fun v s₁ q => ?_) fun _ _ x => x
  unfold PySem.W.StarOf at q ⊢
  refine wpAny_mono q (fun b s₂ ⟨e, q⟩ => ⟨e, wpAny_mono q (fun vs s₃ q => ⟨trivial, q⟩) fun _ _ x => x⟩) fun _ _ x => x
theorem pe_listZip {X : Cx} {e : Expr} {te : TE} {p p2 ps pos pos2 : Pos} (hca : X.calm = true) (hl : Gl X "list") (hml : X.mg "list" = none) (hg : Gl X "zip") (hm : X.mg "zip" = none) (ha : PE X e te)
    (ne : starEach [.Call (.Name "zip" p) [.Starred e ps] [] pos] X.env = (false, eval (.Call (.Name "zip" p) [.Starred e ps] [] pos) X.env) :: starEach [] X.env := by rfl)
    (na : starEach [.Starred e ps] X.env = [(true, eval e X.env)] := by rfl) :
    PE X (.Call (.Name "list" p2) [.Call (.Name "zip" p) [.Starred e ps] [] pos] [] pos2) (tListZip X.K te) := by
  refine ⟨fun pins s σ H Q I h => ?_⟩
  refine Call_ (ld_blt I hl hml boot_list (PyProof.Rows.callWith_type1 (args_cons ?_ ne) ne))
  refine Call_ (ld_blt I hg hm PyProof.Rows.boot_zip (callWith_starTy (thn (ha.run pins s σ H _ I h) fun v s1 ⟨x, H1, I1, rx, a, rs, xv, m, ex, hA, hR, l0, l1, m0, m1, hx, q⟩ => ?_) na))
  subst ex
  obtain rfl : v = Value.ref a := rx
  refine StX.star_any I1 (.inl hA) fun us s2 I2 rv => ?_
  obtain rfl := refs_of rv
  obtain ⟨xss, pv, hlen, hrows⟩ := rows_read I2 hR
  have hb : (1000 : Nat) ≤ sizeLine := by decide
  have hxs : ∀ xs ∈ xss, xs.length = m := fun xs hxs => by
    obtain ⟨x, hx', r⟩ := paired_all pv xs hxs
    rw [← r.length]
    exact hx x hx'
  refine call_zip_n l1 (fun l hl' => ?_) fun h1 z1 n1 k1 => args_nil ?_
  · obtain ⟨j, hj⟩ := List.mem_iff_getElem?.mp hl'
    obtain ⟨xs, _, q⟩ := hrows j l hj
    exact ⟨_, q⟩
  have lt1 := Heap.lt_size z1
  refine call_list_zn (s := { s2 with heap := h1 }) (I2.ok.hd hca) l0 (by omega) m0 m1 hxs n1 z1 ⟨hlen, fun j l e => ?_⟩ fun h' c' q1 q2 q3 => ?_
  · obtain ⟨xs, e1, o, e2, e3⟩ := hrows j l e
    exact ⟨Heap.lt_size e2, xs, e1, o, k1 _ _ e2, e3⟩
  · have ecl : (vcols xv m).length = m := by rw [List.length_map, List.length_range]
    have J : Inv X pins σ (newCols H1 h1.objs.size (vcols xv m)) { s2 with heap := h', toks := s2.toks } := by
      refine Inv.cols (vcs := zcol xss) (c' := c') I2 (fun b o e => q3 b o (Heap.lt_size e) (k1 b o e)) (Nat.le_of_lt (Nat.lt_of_le_of_lt (by omega) lt1)) (by rw [ecl]; exact q1) (fun j hj => q2 j (by rw [ecl] at hj; exact hj)) (fun j c e => ?_) (by rw [ecl]; omega)
      have hj : j < m := by rw [← ecl]; exact (List.getElem?_eq_some_iff.mp e).1
      have ec : c = vcol xv j := by
        rw [List.getElem?_map, List.getElem?_range hj] at e
        exact (Option.some.inj e).symm
      subst ec
      refine ⟨vcol_vals hj pv hx, ?_⟩
      have := pv.length
      rw [List.length_map]
      omega
    exact ⟨.ref h1.objs.size, _, J, rfl, q h1.objs.size fun b hb => I2.hok.fresh (Nat.le_trans (Nat.le_of_lt (Nat.lt_of_le_of_lt (by omega) lt1)) hb)⟩
end Bk
/-! zip of a list and a tuple -/
namespace PySem
open Sem (wp)
open RZ
section
variable {prog : Program} {w : World} {A : Around} {E : Value → Shared → Prop} {s : Shared}
theorem zipM_next_item {z TI TO i1 i2 l1 l2 : Addr} {k1 k2 : Nat} {xs ys : Array Value} {x y a b : Value} {Q : Value → Shared → Prop} (D : ZipApart z TI TO i1 i2 l1 l2)
    (hz : IsZip s.heap z TI TO .none) (hTI : IsPair s.heap TI (.ref i1) (.ref i2)) (hTO : IsPair s.heap TO a b)
    (h1 : s.heap.IsListIter i1 l1 k1) (h2 : s.heap.IsTupleIter i2 l2 k2) (hl1 : s.heap.IsList l1 xs) (hl2 : s.heap.IsTuple l2 ys) (hx : xs[k1]? = some x) (hy : ys[k2]? = some y)
    (hQ : ∀ h', IsZip h' z TI TO (rawInt s.heap.objs.size) → IsPair h' TO x y → h'.IsListIter i1 l1 (k1 + 1) → h'.IsTupleIter i2 l2 (k2 + 1) → IsPair h' s.heap.objs.size x y → h'.objs.size = s.heap.objs.size + 1 →
      (∀ c o, c ≠ z → c ≠ TO → c ≠ i1 → c ≠ i2 → s.heap.get? c = some o → h'.get? c = some o) → Q (.ref s.heap.objs.size) { s with heap := h' }) :
    wpAny (model prog w) A (Builtin.«zip.__next__» ⟨[.ref z], []⟩) (fun fin s' => ∃ v, fin = .done (.ret v) ∧ Q v s') E s := by
  show wpAny _ _ (field (.ref z) 2 >>= _) _ _ _
  refine wpAny_bind (wpAny_field hz rfl (x := .bool false) rfl ?_)
  show wpAny _ _ (field (.ref z) 3 >>= _) _ _ _
  refine wpAny_bind (wpAny_field hz rfl (x := .ref TI) rfl ?_)
  refine wpAny_bind (wpAny_seqItems hTI rfl ?_)
  show wpAny _ _ (Builtin.SmallTypes.ownedTupleIsFree (.ref z) >>= _) _ _ _
  refine wpAny_bind ?_
  unfold Builtin.SmallTypes.ownedTupleIsFree
  refine wpAny_bind (wpAny_field hz rfl (x := .none) rfl (wpAny_pure ?_))
  simp only [if_true]
  refine wpAny_bind (wpAny_rule ?_)
  refine wpAny_bind (wpAny_field hz rfl (x := .ref TO) rfl ?_)
  refine wpAny_bind (wpAny_setField_rec hz (by simp) fun h₁ hz₁ hs₁ => ?_)
  replace hz₁ : IsZip h₁ z TI TO .ellipsis := hz₁
  refine wpAny_bind ?_
  simp only [List.zipIdx_cons, List.zipIdx_nil, List.forIn_cons, List.forIn_nil]

  refine wpAny_bind (wpAny_bind (wpAny_onRaise ?_))
  show wpAny _ _ (Builtin.SmallTypes.nextOf (.ref i1) >>= _) _ _ _
  refine wpAny_bind (wpAny_nextOf_list_item (h1.extBut hs₁.extBut D.i1z) (hl1.extBut hs₁.extBut D.l1z) hx fun h₂ h1₂ hs₂ => wpAny_pure ?_)
  have hTO₂ : IsPair h₂ TO a b := hs₂.extBut _ _ D.TOi1 (hs₁.extBut _ _ D.TOz hTO)
  refine wpAny_bind (wpAny_seqItems hTO₂ rfl ?_)
  refine wpAny_bind (wpAny_updateSeq_pair hTO₂ fun h₃ hTO₃ hs₃ => ?_)
  replace hTO₃ : IsPair h₃ TO x b := hTO₃
  refine wpAny_bind (wpAny_letGo (wpAny_pure ?_))

  refine wpAny_bind (wpAny_bind (wpAny_onRaise ?_))
  show wpAny _ _ (Builtin.SmallTypes.nextOf (.ref i2) >>= _) _ _ _
  refine wpAny_bind (nextOf_tuple_item (((h2.extBut hs₁.extBut D.i2z).extBut hs₂.extBut D.i12.symm).extBut hs₃.extBut D.TOi2.symm)
    (((hl2.extBut hs₁.extBut D.l2z).extBut hs₂.extBut D.l2i1).extBut hs₃.extBut D.l2TO) hy fun h₄ h2₄ hs₄ => wpAny_pure ?_)
  have hTO₄ : IsPair h₄ TO x b := hs₄.extBut _ _ D.TOi2 hTO₃
  refine wpAny_bind (wpAny_seqItems hTO₄ rfl ?_)
  refine wpAny_bind (wpAny_updateSeq_pair hTO₄ fun h₅ hTO₅ hs₅ => ?_)
  replace hTO₅ : IsPair h₅ TO x y := hTO₅
  refine wpAny_bind (wpAny_letGo (wpAny_pure (wpAny_pure ?_)))

  refine wpAny_bind (wpAny_seqItems hTO₅ rfl ?_)
  refine wpAny_bind (wpAny_newTuple ?_)
  have hsz : h₅.objs.size = s.heap.objs.size := by rw [hs₅.1, hs₄.1, hs₃.1, hs₂.1, hs₁.1]
  have hz₅ : IsZip h₅ z TI TO .ellipsis := hs₅.extBut _ _ D.TOz.symm (hs₄.extBut _ _ D.i2z.symm (hs₃.extBut _ _ D.TOz.symm (hs₂.extBut _ _ D.i1z.symm hz₁)))
  have hk₅ : ∀ c o, c ≠ z → c ≠ TO → c ≠ i1 → c ≠ i2 → s.heap.get? c = some o → h₅.get? c = some o := fun c o c1 c2 c3 c4 e =>
    hs₅.extBut _ _ c2 (hs₄.extBut _ _ c4 (hs₃.extBut _ _ c2 (hs₂.extBut _ _ c3 (hs₁.extBut _ _ c1 e))))
  have h1₅ : h₅.IsListIter i1 l1 (k1 + 1) := ((h1₂.extBut hs₃.extBut D.TOi1.symm).extBut hs₄.extBut D.i12).extBut hs₅.extBut D.TOi1.symm
  have h2₅ : h₅.IsTupleIter i2 l2 (k2 + 1) := h2₄.extBut hs₅.extBut D.TOi2.symm
  have hzlt : z < h₅.objs.size := Heap.lt_size hz₅
  have hTOlt : TO < h₅.objs.size := Heap.lt_size hTO₅
  have hi1lt : i1 < h₅.objs.size := by obtain ⟨_, e, _⟩ := h1₅; exact Heap.lt_size e
  have hi2lt : i2 < h₅.objs.size := by obtain ⟨_, e, _⟩ := h2₅; exact Heap.lt_size e
  show wpAny _ _ (Builtin.SmallTypes.ownedTupleHandOut (.ref z) (.ref h₅.objs.size) >>= _) _ _ _
  refine wpAny_bind ?_
  unfold Builtin.SmallTypes.ownedTupleHandOut
  have hz₆ : IsZip (h₅.push { cls := .type "tuple", data := .seq #[x, y] }) z TI TO .ellipsis := Heap.get?_push_of_some _ hz₅
  refine wpAny_bind (wpAny_setField_rec hz₆ (by simp) fun h₇ hz₇ hs₇ => ?_)
  replace hz₇ : IsZip h₇ z TI TO (rawInt h₅.objs.size) := hz₇
  refine wpAny_setField_rec hz₇ (by simp) fun h₈ hz₈ hs₈ => ?_
  replace hz₈ : IsZip h₈ z TI TO (rawInt h₅.objs.size) := hz₈
  have up : ∀ c o, c ≠ z → h₅.get? c = some o → h₈.get? c = some o := fun c o c1 e => hs₈.extBut _ _ c1 (hs₇.extBut _ _ c1 (Heap.get?_push_of_some _ e))
  have hT₈ : IsPair h₈ h₅.objs.size x y := hs₈.extBut _ _ (Nat.ne_of_gt hzlt) (hs₇.extBut _ _ (Nat.ne_of_gt hzlt) (Heap.get?_push_size _ rfl))
  have hz8 : h₈.objs.size = h₅.objs.size + 1 := by rw [hs₈.1, hs₇.1, Heap.size_push]
  rw [hsz] at hz₈ hT₈ hz8
  refine wpAny_pure ⟨_, rfl, ?_⟩
  show Q (.ref h₅.objs.size) _
  rw [hsz]
  exact hQ h₈ hz₈ (up _ _ D.TOz hTO₅) (h1₅.at fun o e => up _ o D.i1z e) (h2₅.at fun o e => up _ o D.i2z e) hT₈ hz8 fun c o c1 c2 c3 c4 e => up c o c1 (hk₅ c o c1 c2 c3 c4 e)

theorem zipM_next_end {z TI TO i1 i2 l1 l2 : Addr} {k1 k2 : Nat} {xs ys : Array Value} {a b : Value} {Q : Fin → Shared → Prop} (hh : A.handled = none) (D : ZipApart z TI TO i1 i2 l1 l2)
    (hz : IsZip s.heap z TI TO .none) (hTI : IsPair s.heap TI (.ref i1) (.ref i2)) (hTO : IsPair s.heap TO a b)
    (h1 : s.heap.IsListIter i1 l1 k1) (h2 : s.heap.IsTupleIter i2 l2 k2) (hl1 : s.heap.IsList l1 xs) (hl2 : s.heap.IsTuple l2 ys) (hend : xs[k1]? = none ∨ ys[k2]? = none)
    (hE : ∀ h' e, (∀ c o, c ≠ z → c ≠ TO → c ≠ i1 → c ≠ i2 → s.heap.get? c = some o → h'.get? c = some o) → (∃ o, h'.get? e = some o ∧ o.cls = .type "StopIteration") → E (.ref e) { s with heap := h' }) :
    wpAny (model prog w) A (Builtin.«zip.__next__» ⟨[.ref z], []⟩) Q E s := by
  show wpAny _ _ (field (.ref z) 2 >>= _) _ _ _
  refine wpAny_bind (wpAny_field hz rfl (x := .bool false) rfl ?_)
  show wpAny _ _ (field (.ref z) 3 >>= _) _ _ _
  refine wpAny_bind (wpAny_field hz rfl (x := .ref TI) rfl ?_)
  refine wpAny_bind (wpAny_seqItems hTI rfl ?_)
  show wpAny _ _ (Builtin.SmallTypes.ownedTupleIsFree (.ref z) >>= _) _ _ _
  refine wpAny_bind ?_
  unfold Builtin.SmallTypes.ownedTupleIsFree
  refine wpAny_bind (wpAny_field hz rfl (x := .none) rfl (wpAny_pure ?_))
  simp only [if_true]
  refine wpAny_bind (wpAny_rule ?_)
  refine wpAny_bind (wpAny_field hz rfl (x := .ref TO) rfl ?_)
  refine wpAny_bind (wpAny_setField_rec hz (by simp) fun h₁ hz₁ hs₁ => ?_)
  replace hz₁ : IsZip h₁ z TI TO .ellipsis := hz₁
  refine wpAny_bind ?_
  simp only [List.zipIdx_cons, List.zipIdx_nil, List.forIn_cons, List.forIn_nil]
  refine wpAny_bind (wpAny_bind (wpAny_onRaise ?_))
  show wpAny _ _ (Builtin.SmallTypes.nextOf (.ref i1) >>= _) _ _ _
  cases hx : xs[k1]? with
  | none =>
    refine wpAny_bind (wpAny_nextOf_list_end hh (h1.extBut hs₁.extBut D.i1z) (hl1.extBut hs₁.extBut D.l1z) hx fun h₂ e hs₂ he => ?_)
    obtain ⟨oe, hoe, hce⟩ := he
    have hz₂ : IsZip h₂ z TI TO .ellipsis := hs₂ _ _ D.i1z.symm hz₁
    have hez : e ≠ z := fun x => by subst x; rw [hz₂] at hoe; cases hoe; simp at hce
    refine wpAny_setField_rec hz₂ (by simp) fun h₃ _ hs₃ => hE h₃ e (fun c o c1 _ c3 _ x => hs₃.extBut _ _ c1 (hs₂ _ _ c3 (hs₁.extBut _ _ c1 x))) ⟨oe, hs₃.extBut _ _ hez hoe, hce⟩
  | some x =>
    have hy : ys[k2]? = none := by rcases hend with h | h; rw [hx] at h; cases h; exact h
    refine wpAny_bind (wpAny_nextOf_list_item (h1.extBut hs₁.extBut D.i1z) (hl1.extBut hs₁.extBut D.l1z) hx fun h₂ h1₂ hs₂ => wpAny_pure ?_)
    have hTO₂ : IsPair h₂ TO a b := hs₂.extBut _ _ D.TOi1 (hs₁.extBut _ _ D.TOz hTO)
    refine wpAny_bind (wpAny_seqItems hTO₂ rfl ?_)
    refine wpAny_bind (wpAny_updateSeq_pair hTO₂ fun h₃ hTO₃ hs₃ => ?_)
    refine wpAny_bind (wpAny_letGo (wpAny_pure ?_))
    refine wpAny_bind (wpAny_bind (wpAny_onRaise ?_))
    show wpAny _ _ (Builtin.SmallTypes.nextOf (.ref i2) >>= _) _ _ _
    refine wpAny_bind (nextOf_tuple_end hh (((h2.extBut hs₁.extBut D.i2z).extBut hs₂.extBut D.i12.symm).extBut hs₃.extBut D.TOi2.symm)
      (((hl2.extBut hs₁.extBut D.l2z).extBut hs₂.extBut D.l2i1).extBut hs₃.extBut D.l2TO) hy fun h₄ e hs₄ he => ?_)
    obtain ⟨oe, hoe, hce⟩ := he
    have hz₄ : IsZip h₄ z TI TO .ellipsis := hs₄ _ _ D.i2z.symm (hs₃.extBut _ _ D.TOz.symm (hs₂.extBut _ _ D.i1z.symm hz₁))
    have hez : e ≠ z := fun x => by subst x; rw [hz₄] at hoe; cases hoe; simp at hce
    refine wpAny_setField_rec hz₄ (by simp) fun h₅ _ hs₅ => hE h₅ e (fun c o c1 c2 c3 c4 x => hs₅.extBut _ _ c1 (hs₄ _ _ c4 (hs₃.extBut _ _ c2 (hs₂.extBut _ _ c3 (hs₁.extBut _ _ c1 x))))) ⟨oe, hs₅.extBut _ _ hez hoe, hce⟩

theorem pyNext_zipM_item {z TI TO i1 i2 l1 l2 : Addr} {k1 k2 : Nat} {xs ys : Array Value} {x y a b : Value} {Q : Option Value → Shared → Prop} (D : ZipApart z TI TO i1 i2 l1 l2)
    (hz : IsZip s.heap z TI TO .none) (hTI : IsPair s.heap TI (.ref i1) (.ref i2)) (hTO : IsPair s.heap TO a b)
    (h1 : s.heap.IsListIter i1 l1 k1) (h2 : s.heap.IsTupleIter i2 l2 k2) (hl1 : s.heap.IsList l1 xs) (hl2 : s.heap.IsTuple l2 ys) (hx : xs[k1]? = some x) (hy : ys[k2]? = some y)
    (hQ : ∀ h', IsZip h' z TI TO (rawInt s.heap.objs.size) → IsPair h' TO x y → h'.IsListIter i1 l1 (k1 + 1) → h'.IsTupleIter i2 l2 (k2 + 1) → IsPair h' s.heap.objs.size x y → h'.objs.size = s.heap.objs.size + 1 →
      (∀ c o, c ≠ z → c ≠ TO → c ≠ i1 → c ≠ i2 → s.heap.get? c = some o → h'.get? c = some o) → Q (some (.ref s.heap.objs.size)) { s with heap := h' }) :
    wpAny (model prog w) A (pyNext (.ref z)) Q E s := by
  have hT : s.TypeIs (.ref z) "zip" := ⟨_, hz, rfl⟩
  unfold pyNext
  exact wpAny_bind (wpAny_attempt (wpAny_callSpecial?_slot (name := Str.ofString "__next__") hT F.slot_zip_next
    (wpAny_call_entry F.slot_zip_next hT F.entry_zip_next
      (zipM_next_item D hz hTI hTO h1 h2 hl1 hl2 hx hy fun h' a1 a2 a3 a4 a5 a6 a7 => wpAny_pure (hQ h' a1 a2 a3 a4 a5 a6 a7)) (F.args_zip_next_1 _))))

theorem pyNext_zipM_end {z TI TO i1 i2 l1 l2 : Addr} {k1 k2 : Nat} {xs ys : Array Value} {a b : Value} {Q : Option Value → Shared → Prop} (hh : A.handled = none) (D : ZipApart z TI TO i1 i2 l1 l2)
    (hz : IsZip s.heap z TI TO .none) (hTI : IsPair s.heap TI (.ref i1) (.ref i2)) (hTO : IsPair s.heap TO a b)
    (h1 : s.heap.IsListIter i1 l1 k1) (h2 : s.heap.IsTupleIter i2 l2 k2) (hl1 : s.heap.IsList l1 xs) (hl2 : s.heap.IsTuple l2 ys) (hend : xs[k1]? = none ∨ ys[k2]? = none)
    (hQ : ∀ h', (∀ c o, c ≠ z → c ≠ TO → c ≠ i1 → c ≠ i2 → s.heap.get? c = some o → h'.get? c = some o) → Q none { s with heap := h' }) : wpAny (model prog w) A (pyNext (.ref z)) Q E s := by
  have hT : s.TypeIs (.ref z) "zip" := ⟨_, hz, rfl⟩
  unfold pyNext
  refine wpAny_bind (wpAny_attempt (wpAny_callSpecial?_slot (name := Str.ofString "__next__") hT F.slot_zip_next
    (wpAny_call_entry F.slot_zip_next hT F.entry_zip_next (zipM_next_end hh D hz hTI hTO h1 h2 hl1 hl2 hend fun h' e hk he => ?_) (F.args_zip_next_1 _))))
  obtain ⟨o, ho, hc⟩ := he
  refine wpAny_bind (wpAny_isInstance (T := "StopIteration") (b := true) ⟨o, ho, hc⟩ isSubtype_stop ?_)
  exact wpAny_pure (hQ _ hk)
end

abbrev zipMH1 (h : Heap) (l1 : Addr) : Heap := h.push { cls := .type "list_iterator", data := .fields #[.ref l1, .int 0 0] }
abbrev zipMH2 (h : Heap) (l1 l2 : Addr) : Heap := (zipMH1 h l1).push { cls := .type "tuple_iterator", data := .fields #[.ref l2, .int 0 0] }
abbrev zipMH3 (h : Heap) (l1 l2 : Addr) : Heap := (zipMH2 h l1 l2).push { cls := .type "tuple", data := .seq #[.ref h.objs.size, .ref (zipMH1 h l1).objs.size] }
abbrev zipMH4 (h : Heap) (l1 l2 : Addr) : Heap := (zipMH3 h l1 l2).push { cls := .type "tuple", data := .seq #[.none, .none] }
abbrev zipMH5 (h : Heap) (l1 l2 : Addr) : Heap := (zipMH4 h l1 l2).push { cls := .type "zip", data := .fields #[.none, .bool false, .bool false, .ref (zipMH2 h l1 l2).objs.size, .ref (zipMH3 h l1 l2).objs.size] }

theorem meets_zipM_new (l1 l2 : Addr) (xs ys : Array Value) :
    Meets (Builtin.«zip.__new__» ⟨[.type "zip", .ref l1, .ref l2], []⟩) (fun _ R s => s.heap.IsList l1 xs ∧ s.heap.IsTuple l2 ys ∧
      R (.ok (.ret (.ref (zipMH4 s.heap l1 l2).objs.size))) { s with heap := zipMH5 s.heap l1 l2 }) :=
  .of_wp fun prog w A R s h => by
    obtain ⟨hp, g, d, tk, os⟩ := s; obtain ⟨hl1, hl2, h⟩ := h
    have hsub := sub_zip
    have hL1 : Heap.IsList (Shared.heap ⟨hp, g, d, tk, os⟩) l1 xs := hl1
    have hL2 : Heap.IsTuple (Shared.heap ⟨hp.push { cls := .type "list_iterator", data := .fields #[.ref l1, .int 0 0] }, g, d, tk, os⟩) l2 ys := Heap.IsTuple.push hl2 _
    wp_walk using wpAny_pyIter_list hL1, wpAny_pyIter_tuple hL2
    exact ⟨_, rfl, h⟩

section
variable {prog : Program} {w : World} {A : Around} {E : Value → Shared → Prop} {s : Shared}

theorem call_zipM {l1 l2 : Addr} {xs ys : Array Value} {Q : Value → Shared → Prop} (hl1 : s.heap.IsList l1 xs) (hl2 : s.heap.IsTuple l2 ys)
    (h : ∀ h', IsZip h' (s.heap.objs.size + 4) (s.heap.objs.size + 2) (s.heap.objs.size + 3) .none → IsPair h' (s.heap.objs.size + 2) (.ref s.heap.objs.size) (.ref (s.heap.objs.size + 1)) →
      IsPair h' (s.heap.objs.size + 3) .none .none → h'.IsListIter s.heap.objs.size l1 0 → h'.IsTupleIter (s.heap.objs.size + 1) l2 0 → h'.objs.size = s.heap.objs.size + 5 →
      (∀ c o, s.heap.get? c = some o → h'.get? c = some o) → Q (.ref (s.heap.objs.size + 4)) { s with heap := h' }) :
    wpAny (model prog w) A (call (.type "zip") [.ref l1, .ref l2]) Q E s := by
  refine callType_new F.called_zip (by decide) (F.typeCall_zip_2 _ _) (F.newCall_zip_2 _ _) (fun obj => F.args_object_init_3 obj _ _) F.entry_zip_new
    (meets_zipM_new l1 l2 xs ys) ⟨hl1, hl2, ?_⟩
  have z1 : (zipMH1 s.heap l1).objs.size = s.heap.objs.size + 1 := Heap.size_push ..
  have z2 : (zipMH2 s.heap l1 l2).objs.size = s.heap.objs.size + 2 := by rw [Heap.size_push, z1]
  have z3 : (zipMH3 s.heap l1 l2).objs.size = s.heap.objs.size + 3 := by rw [Heap.size_push, z2]
  have z4 : (zipMH4 s.heap l1 l2).objs.size = s.heap.objs.size + 4 := by rw [Heap.size_push, z3]
  have z5 : (zipMH5 s.heap l1 l2).objs.size = s.heap.objs.size + 5 := by rw [Heap.size_push, z4]
  have g5 : (zipMH5 s.heap l1 l2).get? (zipMH4 s.heap l1 l2).objs.size = some _ := Heap.get?_push_size _ rfl
  have g4 : (zipMH5 s.heap l1 l2).get? (zipMH3 s.heap l1 l2).objs.size = some _ := Heap.get?_push_of_some _ (Heap.get?_push_size _ rfl)
  have g3 : (zipMH5 s.heap l1 l2).get? (zipMH2 s.heap l1 l2).objs.size = some _ := Heap.get?_push_of_some _ (Heap.get?_push_of_some _ (Heap.get?_push_size _ rfl))
  have g2 : (zipMH5 s.heap l1 l2).get? (zipMH1 s.heap l1).objs.size = some _ := Heap.get?_push_of_some _ (Heap.get?_push_of_some _ (Heap.get?_push_of_some _ (Heap.get?_push_size _ rfl)))
  have g1 : (zipMH5 s.heap l1 l2).get? s.heap.objs.size = some _ := Heap.get?_push_of_some _ (Heap.get?_push_of_some _ (Heap.get?_push_of_some _ (Heap.get?_push_of_some _ (Heap.get?_push_size _ rfl))))
  show _ ∧ _
  rw [z2, z3, z4] at g5
  rw [z1, z2] at g3
  rw [z3] at g4
  rw [z1] at g2
  rw [z4]
  exact ⟨⟨_, g5, rfl⟩, h _ g5 g3 g4 ⟨_, g1, rfl, rfl⟩ ⟨_, g2, rfl, rfl⟩ z5 fun c o x =>
    Heap.get?_push_of_some _ (Heap.get?_push_of_some _ (Heap.get?_push_of_some _ (Heap.get?_push_of_some _ (Heap.get?_push_of_some _ x))))⟩
end

end PySem
namespace Bk
open PySem PySem.Spec PyProof.Rows L2 RZ
/-- the tuples at a and b as they stand at each turn, the items in new pairs -/
def ItzM (K : PySem.W.Frag) (a b : Addr) : It :=
  ⟨fun i H => ∃ (xs ys : List V) (x y : V), SqL K H a xs ∧ SqT K H b ys ∧ xs[i]? = some x ∧ ys[i]? = some y,
    fun i H v H' => ∃ T x y, v = .ref T ∧ H T = none ∧ H' = upd H T (.tup [x, y]) ∧ (∀ xs, SqL K H a xs → xs[i]? = some x) ∧ ∀ ys, SqT K H b ys → ys[i]? = some y,
    fun i H => ∃ xs ys : List V, SqL K H a xs ∧ SqT K H b ys ∧ (xs.length ≤ i ∨ ys.length ≤ i)⟩
theorem turn_zipM {P : Program} {w : World} {K : PySem.W.Frag} {elts : List Expr} {kk : Nat} {tpos : Pos} {a b z TI TO i1 i2 : Addr} (D : ZipApart z TI TO i1 i2 a b) :
    Turn P w K (.Tuple elts kk tpos) (ItzM K a b) [z, TI, TO, i1, i2] z (fun i h => IsZip h z TI TO .none ∧ IsPair h TI (.ref i1) (.ref i2) ∧ (∃ x y, IsPair h TO x y) ∧ h.IsListIter i1 a i ∧ h.IsTupleIter i2 b i) where
  mem := by simp
  obj := fun i h st c hc => by
    obtain ⟨hz, hTI, ⟨x, y, hTO⟩, ⟨o1, e1, _, d1⟩, ⟨o2, e2, _, d2⟩⟩ := st
    have e' : c = z ∨ c = TI ∨ c = TO ∨ c = i1 ∨ c = i2 := by simpa using hc
    rcases e' with q | q | q | q | q
    · rw [q]; exact ⟨_, hz, fun v q => nomatch q⟩
    · rw [q]; exact ⟨_, hTI, fun v q => nomatch q⟩
    · rw [q]; exact ⟨_, hTO, fun v q => nomatch q⟩
    · rw [q]; exact ⟨o1, e1, fun v q => by rw [d1] at q; cases q⟩
    · rw [q]; exact ⟨o2, e2, fun v q => by rw [d2] at q; cases q⟩
  keep := fun i h h' st k => by
    obtain ⟨hz, hTI, ⟨x, y, hTO⟩, h1, h2⟩ := st
    exact ⟨k z (by simp) _ hz, k TI (by simp) _ hTI, ⟨x, y, k TO (by simp) _ hTO⟩, h1.at fun o q => k i1 (by simp) o q, h2.at fun o q => k i2 (by simp) o q⟩
  item := by
    intro X hP hw hK hc i pins s σ H E I hf st hg
    subst hP hw hK
    obtain ⟨hz, hTI, ⟨x0, y0, hTO⟩, h1, h2⟩ := st
    obtain ⟨xs, ys, x, y, hqx, hqy, hx, hy⟩ := hg
    obtain ⟨its, rv, p, _⟩ := I.list hqx
    obtain ⟨its2, rv2, p2, _⟩ := I.tuple hqy
    obtain ⟨u, hu, ru⟩ := rv.get hx
    obtain ⟨u2, hu2, ru2⟩ := rv2.get hy
    have hzl : z < s.heap.objs.size := Heap.lt_size hz
    refine pyNext_zipM_item D hz hTI hTO h1 h2 p.isList p2 (x := u) (y := u2) (by simpa using hu) (by simpa using hu2) fun h' z' TO' h1' h2' hT hsz hk => ?_
    refine ⟨_, rfl, wpAny_letOwnedTupleGo_zip (s := { s with heap := h' }) z' fun h'' z'' sb => ?_⟩
    have hT2 : h''.get? s.heap.objs.size = some { cls := .type "tuple", data := .seq #[u, u2] } := (sb.2 _ (Nat.ne_of_gt hzl)).trans hT
    have new : ObjOk X.prog X.w (upd H s.heap.objs.size (.tup [x, y])) h'' s.heap.objs.size (.tup [x, y]) :=
      ⟨by show 2 ≤ sizeLine; decide, [u, u2], .cons ru (.cons ru2 .nil), ⟨_, hT2, rfl, _, rfl⟩⟩
    have I1 : Inv X pins σ (upd H s.heap.objs.size (.tup [x, y])) { s with heap := h'' } :=
      I.turnedNew (t' := s.toks) (ch := [z, TI, TO, i1, i2]) (fun c o hb q => (sb.2 c (fun q' => hb (by simp [q']))).trans (hk c o (fun q' => hb (by simp [q'])) (fun q' => hb (by simp [q'])) (fun q' => hb (by simp [q'])) (fun q' => hb (by simp [q'])) q)) hf (Nat.le_refl _) new
    refine ⟨.ref s.heap.objs.size, _, I1, rfl, ⟨_, x, y, rfl, I.hok.fresh (Nat.le_refl _), rfl, fun l hl => by rw [I.list_inj hl hqx]; exact hx, fun l hl => by rw [I.tuple_inj hl hqy]; exact hy⟩, ⟨z'', ?_, ⟨u, u2, ?_⟩, ?_, ?_⟩, fun c hcm => ?_⟩
    · exact (sb.2 _ D.TIz).trans (hk _ _ D.TIz D.TITO D.TIi1 D.TIi2 hTI)
    · exact (sb.2 _ D.TOz).trans TO'
    · exact h1'.at fun o q => (sb.2 _ D.i1z).trans q
    · exact h2'.at fun o q => (sb.2 _ D.i2z).trans q
    · have hlt : c < s.heap.objs.size := by
        have e' : c = z ∨ c = TI ∨ c = TO ∨ c = i1 ∨ c = i2 := by simpa using hcm
        rcases e' with q | q | q | q | q
        · rw [q]; exact hzl
        · rw [q]; exact Heap.lt_size hTI
        · rw [q]; exact Heap.lt_size hTO
        · rw [q]; obtain ⟨_, e1, _⟩ := h1; exact Heap.lt_size e1
        · rw [q]; obtain ⟨_, e2, _⟩ := h2; exact Heap.lt_size e2
      rw [upd_ne (Nat.ne_of_lt hlt)]
      exact (hf c hcm).1
  done := by
    intro X hP hw hK hc i pins s σ H E I hf st hg
    subst hP hw hK
    obtain ⟨hz, hTI, ⟨x0, y0, hTO⟩, h1, h2⟩ := st
    obtain ⟨xs, ys, hqx, hqy, hend⟩ := hg
    obtain ⟨its, rv, p, _⟩ := I.list hqx
    obtain ⟨its2, rv2, p2, _⟩ := I.tuple hqy
    have l1 := rv.length
    have l2 := rv2.length
    have he : its.toArray[i]? = none ∨ its2.toArray[i]? = none := by
      rcases hend with q | q
      · exact .inl (by simp; omega)
      · exact .inr (by simp; omega)
    exact pyNext_zipM_end (I.ok.hd hc) D hz hTI hTO h1 h2 p.isList p2 he fun h' hk => ⟨rfl, I.turnedL (t' := s.toks) (ch := [z, TI, TO, i1, i2]) (fun c o hb q =>
      hk c o (fun q' => hb (by simp [q'])) (fun q' => hb (by simp [q'])) (fun q' => hb (by simp [q'])) (fun q' => hb (by simp [q'])) q) hf⟩
  self := fun A i s Q E st h => wpAny_pyIter_zip st.1 h


end Bk
namespace Bk
open PySem PySem.Spec PyProof.Rows L2 Evl RZ
/-! ### a list or a tuple: walked, indexed, zipped -/
def SqX (K : PySem.W.Frag) (k : Bool) (H : Hp) (a : Addr) (xs : List V) : Prop := if k = true then SqT K H a xs else SqL K H a xs
theorem ex_x {K : PySem.W.Frag} {k : Bool} {H H' : Hp} {a : Addr} {xs : List V} (e : Ex H H') (h : SqX K k H a xs) : SqX K k H' a xs := by
  cases k with
  | true => exact ex_t e h
  | false => exact ex_l e h
def iAny (K : PySem.W.Frag) (tl : TE) : TI := fun σ H R => tl σ H fun x H1 => ∃ a, x = .ref a ∧ (((∃ xs, SqL K H1 a xs) ∧ R (Itl K a) H1) ∨ ((∃ xs, SqT K H1 a xs) ∧ R (Itt K a) H1))
theorem pi_anyK {X : Cx} {K : PySem.W.Frag} {tg l : Expr} {tl : TE} (hK : X.K = K) (hl : PE X l tl) : L2.PI X tg l (iAny K tl) := by
  subst hK
  refine ⟨fun pins s σ H R I h => ?_⟩
  refine thn (hl.run pins s σ H _ I h) fun v s1 ⟨x, H1, I1, r1, q1⟩ => ?_
  obtain ⟨a, e, ⟨⟨xs, hq⟩, q⟩ | ⟨⟨xs, hq⟩, q⟩⟩ := q1
  · subst e
    cases r1
    obtain ⟨its, rv, p, hz⟩ := I1.list hq
    refine wpAny_pyIter_list p.isList ?_
    refine ⟨s1.heap.objs.size, [s1.heap.objs.size], _, _, H1, rfl, I1.kept (t' := s1.toks) fun b o e => Heap.get?_push_of_some _ e, turn_list a _, ⟨_, Heap.get?_push_size _ rfl, rfl, rfl⟩, fun b hb => ?_, q⟩
    have e : b = s1.heap.objs.size := by simpa using hb
    subst e
    exact I1.fpOk (Nat.le_refl _) (I1.hok.fresh (Nat.le_refl _))
  · subst e
    cases r1
    obtain ⟨its, rv, p, hz⟩ := I1.tuple hq
    refine wpAny_pyIter_tuple (show s1.heap.IsTuple a its.toArray from p) ?_
    refine ⟨s1.heap.objs.size, [s1.heap.objs.size], _, _, H1, rfl, I1.kept (t' := s1.toks) fun b o e => Heap.get?_push_of_some _ e, turn_tuple a _, ⟨_, Heap.get?_push_size _ rfl, rfl, rfl⟩, fun b hb => ?_, q⟩
    have e : b = s1.heap.objs.size := by simpa using hb
    subst e
    exact I1.fpOk (Nat.le_refl _) (I1.hok.fresh (Nat.le_refl _))
def rIxA (K : PySem.W.Frag) : R2 := fun x y H Q => rIxL K x y H Q ∨ rIxT K x y H Q
theorem ix_anyK {X : Cx} {K : PySem.W.Frag} (h : X.K = K) : IxR X (rIxA K) := (ix_listK h).or (ix_tupK h)
theorem rv_ixA {K : PySem.W.Frag} {k : Bool} {H : Hp} {p : Addr} {xs : List V} {i : Int} {v : V} (h : SqX K k H p xs) (ha : atI xs i = some v) : RV (rIxA K) (.ref p) (.int i) H v := fun H1 e Q q => by
  cases k with
  | true => exact .inr (rv_ixT (show SqT K H p xs from h) ha H1 e Q q)
  | false => exact .inl (rv_ixL (show SqL K H p xs from h) ha H1 e Q q)
/-- zip of two lists, of two tuples, of a list and a tuple -/
def iZipX (K : PySem.W.Frag) (ta : TA) : TI := fun σ H R => ta σ H fun vs H1 => ∃ a b xs ys, vs = [.ref a, .ref b] ∧
  ((SqL K H1 a xs ∧ SqL K H1 b ys ∧ R (Itz K a b) H1) ∨ (SqT K H1 a xs ∧ SqT K H1 b ys ∧ R (ItzT K a b) H1) ∨ (SqL K H1 a xs ∧ SqT K H1 b ys ∧ R (ItzM K a b) H1))
theorem pi_zipX {X : Cx} {K : PySem.W.Frag} {e e2 : Expr} {ta : TA} {p pos tpos : Pos} {elts : List Expr} {kk : Nat} (hK : X.K = K) (hg : Gl X "zip") (hm : X.mg "zip" = none) (ha : PA X [e, e2] ta)
    (hs : starEach [e, e2] X.env = (false, eval e X.env) :: starEach [e2] X.env := by rfl) (hpl : (backTo pos (starEach [e2] X.env)).any (·.1) = false := by rfl) :
    L2.PI X (.Tuple elts kk tpos) (.Call (.Name "zip" p) [e, e2] [] pos) (iZipX K ta) := by
  subst hK
  refine ⟨fun pins s σ H R I h => ?_⟩
  refine Call_ (ld_blt I hg hm PyProof.Rows.boot_zip (PyProof.Rows.callWith_type1 (thn (ha.run pos pins s σ H _ I h) fun us s1 ⟨vs, H1, I1, r1, q1⟩ => ?_) hs hpl))
  obtain ⟨a, b, xs, ys, ex, q1⟩ := q1
  subst ex
  cases r1 with
  | cons r rr =>
    cases rr with
    | cons r' rr =>
      cases rr
      cases r
      cases r'
      have fresh5 : ∀ c, c ∈ [s1.heap.objs.size + 4, s1.heap.objs.size + 2, s1.heap.objs.size + 3, s1.heap.objs.size, s1.heap.objs.size + 1] → FpOk X pins H1 c := fun c hcm => by
        have e' : c = s1.heap.objs.size + 4 ∨ c = s1.heap.objs.size + 2 ∨ c = s1.heap.objs.size + 3 ∨ c = s1.heap.objs.size ∨ c = s1.heap.objs.size + 1 := by simpa using hcm
        have hle : s1.heap.objs.size ≤ c := by
          rcases e' with z | z | z | z | z
          · rw [z]; exact Nat.le_add_right _ _
          · rw [z]; exact Nat.le_add_right _ _
          · rw [z]; exact Nat.le_add_right _ _
          · rw [z]; exact Nat.le_refl _
          · rw [z]; exact Nat.le_add_right _ _
        exact I1.fpOk hle (I1.hok.fresh hle)
      rcases q1 with ⟨hqx, hqy, q⟩ | ⟨hqx, hqy, q⟩ | ⟨hqx, hqy, q⟩
      · obtain ⟨its, rv, p1, _⟩ := I1.list hqx
        obtain ⟨its2, rv2, p2, _⟩ := I1.list hqy
        refine call_zip_2 p1.isList p2.isList fun h' hz hTI hTO h1 h2 hsz hk => wpAny_pyIter_zip hz ?_
        have I2 : Inv X pins σ H1 { s1 with heap := h' } := I1.kept (t' := s1.toks) hk
        exact ⟨s1.heap.objs.size + 4, [s1.heap.objs.size + 4, s1.heap.objs.size + 2, s1.heap.objs.size + 3, s1.heap.objs.size, s1.heap.objs.size + 1], _, _, H1, rfl, I2, turn_zip (PySem.W.ktu_apart s1.heap.objs.size a b p1.lt p2.lt), ⟨hz, hTI, ⟨_, _, hTO⟩, h1, h2⟩, fresh5, q⟩
      · obtain ⟨its, rv, p1, _⟩ := I1.tuple hqx
        obtain ⟨its2, rv2, p2, _⟩ := I1.tuple hqy
        obtain ⟨o1, ho1, _⟩ := id p1
        obtain ⟨o2, ho2, _⟩ := id p2
        refine call_zipT (show s1.heap.IsTuple a its.toArray from p1) (show s1.heap.IsTuple b its2.toArray from p2) fun h' hz hTI hTO h1 h2 hsz hk => wpAny_pyIter_zip hz ?_
        have I2 : Inv X pins σ H1 { s1 with heap := h' } := I1.kept (t' := s1.toks) hk
        exact ⟨s1.heap.objs.size + 4, [s1.heap.objs.size + 4, s1.heap.objs.size + 2, s1.heap.objs.size + 3, s1.heap.objs.size, s1.heap.objs.size + 1], _, _, H1, rfl, I2, turn_zipT (PySem.W.ktu_apart s1.heap.objs.size a b (Heap.lt_size ho1) (Heap.lt_size ho2)), ⟨hz, hTI, ⟨_, _, hTO⟩, h1, h2⟩, fresh5, q⟩
      · obtain ⟨its, rv, p1, _⟩ := I1.list hqx
        obtain ⟨its2, rv2, p2, _⟩ := I1.tuple hqy
        obtain ⟨o2, ho2, _⟩ := id p2
        refine call_zipM p1.isList (show s1.heap.IsTuple b its2.toArray from p2) fun h' hz hTI hTO h1 h2 hsz hk => wpAny_pyIter_zip hz ?_
        have I2 : Inv X pins σ H1 { s1 with heap := h' } := I1.kept (t' := s1.toks) hk
        exact ⟨s1.heap.objs.size + 4, [s1.heap.objs.size + 4, s1.heap.objs.size + 2, s1.heap.objs.size + 3, s1.heap.objs.size, s1.heap.objs.size + 1], _, _, H1, rfl, I2, turn_zipM (PySem.W.ktu_apart s1.heap.objs.size a b p1.lt (Heap.lt_size ho2)), ⟨hz, hTI, ⟨_, _, hTO⟩, h1, h2⟩, fresh5, q⟩
section
variable {K : PySem.W.Frag} {σ : L2.St} {H : Hp} {te tl tr : TE} {tt : TT}
/-- one turn of a zip in a comprehension -/
theorem zx_turn {H2 : Hp} {T : Addr} {x y : V} {Dl : Addr} {n i j : Nat} {vs : List Nat} {v : Nat → V} (nT : H T = none) (p : Cw H2 (fun _ => true) v Dl n H) (hn : n < 50000) (hw : ∀ x y, wipe (((wipe σ vs).set i (some x)).set j (some y)) vs = wipe σ vs)
    (he : Ev te (((wipe σ vs).set i (some x)).set j (some y)) H2 (v n)) :
    g2 K i j (.ref T) (wipe σ vs) (upd H T (.tup [x, y])) fun σ2 H3 => wipe σ2 vs = wipe σ vs ∧ tYes σ2 H3 fun b H4 => if b = true then te σ2 H4 fun y H5 => ∃ acc, H5 Dl = some (.lst acc) ∧ acc.length < sizeLine ∧ Cw H2 (fun _ => true) v Dl (n + 1) (upd H5 Dl (.lst (acc ++ [y]))) else Cw H2 (fun _ => true) v Dl (n + 1) H4 := by
  have e3 := Ex.new (o := .tup [x, y]) nT
  exact g2_go upd_same ⟨hw _ _, cw_turn ⟨p.1, p.2.1.trans e3, e3 _ _ p.2.2⟩ hn (fun H3 _ Q q => q H3 (Ex.refl H3)) fun _ => he⟩
theorem el_lcZX {a b : Addr} {k : Bool} {xs ys : List V} {i j : Nat} {vs : List Nat} (v : Nat → V) (h : Ev tl σ H (.ref a)) (h' : Ev tr σ H (.ref b)) (hx : SqX K k H a xs) (hy : SqT K H b ys) (hz : xs.length ≤ 40000)
    (hw : ∀ x y, wipe (((wipe σ vs).set i (some x)).set j (some y)) vs = wipe σ vs)
    (he : ∀ (n : Nat) x y H1, Ex H H1 → xs[n]? = some x → ys[n]? = some y → Ev te (((wipe σ vs).set i (some x)).set j (some y)) H1 (v n)) :
    EvL (tLc (iZipX K (tCons tl (tCons tr tNil))) (g2 K i j) tYes te vs) σ H (given (min xs.length ys.length) (fun _ => true) v) := fun H0 e Q q => h H0 e _ fun H1 e1 => h' H1 (e.trans e1) _ fun H2 e2 => by
  have ee := (e.trans e1).trans e2
  have hx2 := ex_x ee hx
  have hy2 := ex_t ee hy
  cases k with
  | true =>
    replace hx2 : SqT K H2 a xs := hx2
    refine ⟨a, b, xs, ys, rfl, .inr (.inl ⟨hx2, hy2, fun Dl hD => ?_⟩)⟩
    refine ⟨fun n m H => m = min xs.length ys.length - n ∧ n ≤ min xs.length ys.length ∧ Cw H2 (fun _ => true) v Dl n H, ⟨min xs.length ys.length, by simp, Nat.zero_le _, hD, Ex.new hD, upd_same⟩, ?_⟩
    rintro n m H ⟨rfl, hi, p⟩
    have qx := ex_t p.2.1 hx2
    have qy := ex_t p.2.1 hy2
    by_cases hlt : n < min xs.length ys.length
    · have h1 : n < xs.length := by omega
      have h2 : n < ys.length := by omega
      refine .inr ⟨⟨xs, ys, xs[n], ys[n], qx, qy, by simp [h1], by simp [h2]⟩, Cw H2 (fun _ => true) v Dl (n + 1), fun H' p' => ⟨min xs.length ys.length - (n + 1), by omega, rfl, hlt, p'⟩, ?_⟩
      rintro w H' ⟨T, x, y, rfl, nT, rfl, gx, gy⟩
      exact zx_turn nT p (by omega) hw (he n x y H2 ee (gx xs qx) (gy ys qy))
    · have e' : n = min xs.length ys.length := by omega
      subst e'
      exact .inl ⟨⟨xs, ys, qx, qy, by omega⟩, q Dl H (fresh_back (e1.trans e2) p.1) ((e1.trans e2).trans p.2.1) p.2.2⟩
  | false =>
    replace hx2 : SqL K H2 a xs := hx2
    refine ⟨a, b, xs, ys, rfl, .inr (.inr ⟨hx2, hy2, fun Dl hD => ?_⟩)⟩
    refine ⟨fun n m H => m = min xs.length ys.length - n ∧ n ≤ min xs.length ys.length ∧ Cw H2 (fun _ => true) v Dl n H, ⟨min xs.length ys.length, by simp, Nat.zero_le _, hD, Ex.new hD, upd_same⟩, ?_⟩
    rintro n m H ⟨rfl, hi, p⟩
    have qx := ex_l p.2.1 hx2
    have qy := ex_t p.2.1 hy2
    by_cases hlt : n < min xs.length ys.length
    · have h1 : n < xs.length := by omega
      have h2 : n < ys.length := by omega
      refine .inr ⟨⟨xs, ys, xs[n], ys[n], qx, qy, by simp [h1], by simp [h2]⟩, Cw H2 (fun _ => true) v Dl (n + 1), fun H' p' => ⟨min xs.length ys.length - (n + 1), by omega, rfl, hlt, p'⟩, ?_⟩
      rintro w H' ⟨T, x, y, rfl, nT, rfl, gx, gy⟩
      exact zx_turn nT p (by omega) hw (he n x y H2 ee (gx xs qx) (gy ys qy))
    · have e' : n = min xs.length ys.length := by omega
      subst e'
      exact .inl ⟨⟨xs, ys, qx, qy, by omega⟩, q Dl H (fresh_back (e1.trans e2) p.1) ((e1.trans e2).trans p.2.1) p.2.2⟩
/-- a new list of new lists -/
def EvM (te : TE) (σ : L2.St) (H : Hp) (R : List (List V)) : Prop := ∀ H1, Ex H H1 → ∀ Q : VK, (∀ p qs H2, H1 p = none → Ex H1 H2 → H2 p = some (.lst (qs.map V.ref)) → Paired (fun q r => H2 q = some (.lst r)) qs R → (∀ q ∈ qs, H1 q = none) → Q (.ref p) H2) → te σ H1 Q
theorem paired_snoc {α β : Type} {F : α → β → Prop} {a : α} {b : β} (h : F a b) : ∀ {xs : List α} {ys : List β}, Paired F xs ys → Paired F (xs ++ [a]) (ys ++ [b])
  | _, _, .nil => .cons h .nil
  | _, _, .cons r t => .cons r (paired_snoc h t)
theorem paired_mono {α β : Type} {F G : α → β → Prop} : ∀ {xs : List α} {ys : List β}, Paired F xs ys → (∀ a ∈ xs, ∀ b, F a b → G a b) → Paired G xs ys
  | _, _, .nil, _ => .nil
  | _, _, .cons r t, h => .cons (h _ List.mem_cons_self _ r) (paired_mono t fun a ha b => h a (List.mem_cons_of_mem _ ha) b)
theorem paired_get {α β : Type} {F : α → β → Prop} : ∀ {xs : List α} {ys : List β}, Paired F xs ys → ∀ {i : Nat} {a : α}, xs[i]? = some a → ∃ b, ys[i]? = some b ∧ F a b
  | _, _, .nil, i, a, h => by simp at h
  | _, _, .cons r t, 0, a, h => by cases h; exact ⟨_, rfl, r⟩
  | _, _, .cons r t, i + 1, a, h => paired_get t (i := i) h
theorem paired_get' {α β : Type} {F : α → β → Prop} : ∀ {xs : List α} {ys : List β}, Paired F xs ys → ∀ {i : Nat} {b : β}, ys[i]? = some b → ∃ a, xs[i]? = some a ∧ F a b
  | _, _, .nil, i, a, h => by simp at h
  | _, _, .cons r t, 0, a, h => by cases h; exact ⟨_, rfl, r⟩
  | _, _, .cons r t, i + 1, a, h => paired_get' t (i := i) h
/-- [.. for x in a list or a tuple], each item a new list -/
theorem em_lcX {a : Addr} {k : Bool} {xs : List V} {j : Nat} {vs : List Nat} (r : Nat → List V) (h : Ev tl σ H (.ref a)) (hx : SqX K k H a xs) (hz : xs.length ≤ 40000) (hw : ∀ x, wipe ((wipe σ vs).set j (some x)) vs = wipe σ vs)
    (he : ∀ (i : Nat) (x : V) H1, Ex H H1 → xs[i]? = some x → EvL te ((wipe σ vs).set j (some x)) H1 (r i)) : EvM (tLc (iAny K tl) (gName j) tYes te vs) σ H ((List.range xs.length).map r) := fun H0 e Q q => h H0 e _ fun H1 e1 => by
  have ee := e.trans e1
  have hx1 := ex_x ee hx
  have go : ∀ (Dl : Addr) (hD : H1 Dl = none) (i : Nat) (x : V) (H' : Hp), xs[i]? = some x → (H1 Dl = none ∧ Ex H1 H' ∧ ∃ qs : List Addr, H' Dl = some (.lst (qs.map V.ref)) ∧ Paired (fun q r => H' q = some (.lst r)) qs ((List.range i).map r) ∧ ∀ q ∈ qs, H1 q = none ∧ q ≠ Dl) →
      wipe ((wipe σ vs).set j (some x)) vs = wipe σ vs ∧ tYes ((wipe σ vs).set j (some x)) H' fun b H3 => if b = true then te ((wipe σ vs).set j (some x)) H3 fun y H4 => ∃ acc, H4 Dl = some (.lst acc) ∧ acc.length < sizeLine ∧
        (fun i H' => H1 Dl = none ∧ Ex H1 H' ∧ ∃ qs : List Addr, H' Dl = some (.lst (qs.map V.ref)) ∧ Paired (fun q r => H' q = some (.lst r)) qs ((List.range i).map r) ∧ ∀ q ∈ qs, H1 q = none ∧ q ≠ Dl) (i + 1) (upd H4 Dl (.lst (acc ++ [y]))) else
        (fun i H' => H1 Dl = none ∧ Ex H1 H' ∧ ∃ qs : List Addr, H' Dl = some (.lst (qs.map V.ref)) ∧ Paired (fun q r => H' q = some (.lst r)) qs ((List.range i).map r) ∧ ∀ q ∈ qs, H1 q = none ∧ q ≠ Dl) (i + 1) H3 := by
    intro Dl hD i x H' hi ⟨p0, p1, qs, p2, p3, p4⟩
    refine ⟨hw x, et_yes (σ := (wipe σ vs).set j (some x)) (H := H') H' (Ex.refl H') _ fun H3 e3 => iteT ?_⟩
    refine he i x H3 ((ee.trans p1).trans e3) hi H3 (Ex.refl H3) _ fun l H4 hl e4 gl => ?_
    have e34 := e3.trans e4
    have hi' := (List.getElem?_eq_some_iff.mp hi).1
    have hlen := p3.length
    rw [List.length_map, List.length_range] at hlen
    have nl : l ≠ Dl := (ne_of_none (e3 _ _ p2) hl).symm
    refine ⟨_, e34 _ _ p2, sz_lt (by rw [List.length_map]; omega), p0, (p1.trans e34).mut hD, qs ++ [l], by rw [List.map_append]; exact upd_same, ?_, ?_⟩
    · rw [List.range_succ, List.map_append]
      refine paired_snoc (by rw [upd_ne nl]; exact gl) (paired_mono p3 fun q hq r hr => ?_)
      rw [upd_ne (p4 q hq).2]
      exact e34 _ _ hr
    · intro q hq
      rcases List.mem_append.mp hq with hq | hq
      · exact p4 q hq
      · obtain rfl := List.mem_singleton.mp hq
        exact ⟨fresh_back (p1.trans e3) hl, nl⟩
  have start : ∀ Dl : Addr, H1 Dl = none → (H1 Dl = none ∧ Ex H1 (upd H1 Dl (.lst [])) ∧ ∃ qs : List Addr, (upd H1 Dl (.lst [])) Dl = some (.lst (qs.map V.ref)) ∧ Paired (fun q r => (upd H1 Dl (.lst [])) q = some (.lst r)) qs ((List.range 0).map r) ∧ ∀ q ∈ qs, H1 q = none ∧ q ≠ Dl) :=
    fun Dl hD => ⟨hD, Ex.new hD, [], upd_same, .nil, fun _ h => nomatch h⟩
  have fin : ∀ (Dl : Addr) (hD : H1 Dl = none) (H' : Hp), (H1 Dl = none ∧ Ex H1 H' ∧ ∃ qs : List Addr, H' Dl = some (.lst (qs.map V.ref)) ∧ Paired (fun q r => H' q = some (.lst r)) qs ((List.range xs.length).map r) ∧ ∀ q ∈ qs, H1 q = none ∧ q ≠ Dl) → Q (.ref Dl) H' :=
    fun Dl hD H' ⟨p0, p1, qs, p2, p3, p4⟩ => q Dl qs H' (fresh_back e1 hD) (e1.trans p1) p2 p3 fun b hb => fresh_back e1 (p4 b hb).1
  cases k with
  | true =>
    replace hx1 : SqT K H1 a xs := hx1
    exact ⟨a, rfl, .inr ⟨⟨xs, hx1⟩, fun Dl hD => lc_tup (xs := xs) (fun i H' => H1 Dl = none ∧ Ex H1 H' ∧ ∃ qs : List Addr, H' Dl = some (.lst (qs.map V.ref)) ∧ Paired (fun q r => H' q = some (.lst r)) qs ((List.range i).map r) ∧ ∀ q ∈ qs, H1 q = none ∧ q ≠ Dl)
      (start Dl hD) (fun i H' _ p => ex_t p.2.1 hx1) (fun i x H' hi p => go Dl hD i x H' hi p) (fun H' p => fin Dl hD H' p)⟩⟩
  | false =>
    replace hx1 : SqL K H1 a xs := hx1
    exact ⟨a, rfl, .inl ⟨⟨xs, hx1⟩, fun Dl hD => lc_list (xs := xs) (fun i H' => H1 Dl = none ∧ Ex H1 H' ∧ ∃ qs : List Addr, H' Dl = some (.lst (qs.map V.ref)) ∧ Paired (fun q r => H' q = some (.lst r)) qs ((List.range i).map r) ∧ ∀ q ∈ qs, H1 q = none ∧ q ≠ Dl)
      (start Dl hD) (fun i H' _ p => ex_l p.2.1 hx1) (fun i x H' hi p => go Dl hD i x H' hi p) (fun H' p => fin Dl hD H' p)⟩⟩
theorem s_retM {D : Ends} {R : List (List V)} (h : EvM te σ H R) (k : ∀ p qs H1, H p = none → Ex H H1 → H1 p = some (.lst (qs.map V.ref)) → Paired (fun q r => H1 q = some (.lst r)) qs R → (∀ q ∈ qs, H q = none) → D.rt (.ref p) H1) : tRet te D σ H := h H (Ex.refl H) _ k
theorem newCols_ex {L : Addr} {cols : List (List V)} (hf : ∀ b, L ≤ b → H b = none) : Ex H (newCols H L cols) := fun b o e => by
  rw [newCols_old (Nat.lt_of_not_le fun z => by rw [hf b z] at e; cases e)]
  exact e
/-- columns = list(zip(*x)) -/
def EvC (te : TE) (σ : L2.St) (H : Hp) (R : List (List V)) : Prop := ∀ H1, Ex H H1 → ∀ Q : VK, (∀ p qs H2, H1 p = none → Ex H1 H2 → H2 p = some (.lst (qs.map V.ref)) → Paired (fun q r => H2 q = some (.tup r)) qs R → Q (.ref p) H2) → te σ H1 Q
theorem ec_zip {a : Addr} {rs : List Addr} {xv : List (List V)} {m : Nat} (h : Ev te σ H (.ref a)) (hA : SqT K H a (rs.map V.ref)) (hR : Paired (fun r xs => SqT K H r xs) rs xv) (l0 : 1 ≤ rs.length) (l1 : rs.length ≤ 6) (m0 : 1 ≤ m) (m1 : m ≤ 1000) (hm : ∀ xs ∈ xv, xs.length = m) :
    EvC (tListZip K te) σ H (vcols xv m) := fun H1 e Q q => h H1 e _ fun H2 e2 => by
  refine ⟨a, rs, xv, m, rfl, ex_t (e.trans e2) hA, paired_mono hR fun r _ xs hr => ex_t (e.trans e2) hr, l0, l1, m0, m1, hm, fun L hL => ?_⟩
  refine q L ((List.range (vcols xv m).length).map fun j => L + 1 + j) _ (fresh_back e2 (hL L (Nat.le_refl _))) (e2.trans (newCols_ex hL)) ?_ ?_
  · rw [newCols_at, List.map_map]
    rfl
  · have key : ∀ n, n ≤ (vcols xv m).length → Paired (fun q r => newCols H2 L (vcols xv m) q = some (.tup r)) ((List.range n).map fun j => L + 1 + j) ((vcols xv m).take n) := by
      intro n
      induction n with
      | zero => exact fun _ => .nil
      | succ n ih =>
        intro hn
        have e1 : (vcols xv m)[n]? = some (vcols xv m)[n] := List.getElem?_eq_getElem hn
        rw [List.range_succ, List.map_append, List.take_add_one, e1]
        exact paired_snoc (F := fun q r => newCols H2 L (vcols xv m) q = some (.tup r)) (newCols_col e1) (ih (Nat.le_of_lt hn))
    have := key _ (Nat.le_refl _)
    rw [List.take_length] at this
    exact this
theorem q_asgC {D : Ends} {tz : TS} {i : Nat} {R : List (List V)} (h : EvC te σ H R) (k : ∀ p qs H1, H p = none → Ex H H1 → H1 p = some (.lst (qs.map V.ref)) → Paired (fun q r => H1 q = some (.tup r)) qs R → tz D (σ.set i (some (.ref p))) H1) : tSeq (tAsg te (gName i)) tz D σ H := h H (Ex.refl H) _ k
end
end Bk
namespace My
open PySem PySem.Spec PyProof.Rows L2 Evl Bk

/-! ### tables of numbers -/
def tabL (m : Nat) (f : Nat → Int) : List Int := (List.range m).map f
theorem tab_length (m : Nat) (f : Nat → Int) : (tabL m f).length = m := by simp [tabL]
theorem tab_get {m : Nat} {f : Nat → Int} {i : Nat} (h : i < m) : (tabL m f)[i]? = some (f i) := by
  unfold tabL
  rw [List.getElem?_map, List.getElem?_range h]
  rfl
theorem tab_at {m : Nat} {f : Nat → Int} {i : Nat} (h : i < m) : (vi (tabL m f))[i]? = some (.int (f i)) := by
  unfold vi
  rw [List.getElem?_map, tab_get h]
  rfl
theorem tab_getD {m : Nat} {f : Nat → Int} {i : Nat} (h : i < m) : (tabL m f).getD i 0 = f i := by
  rw [List.getD_eq_getElem?_getD, tab_get h]
  rfl
theorem tab_congr {m : Nat} {f g : Nat → Int} (h : ∀ i, i < m → f i = g i) : tabL m f = tabL m g := List.map_congr_left fun i hi => h i (List.mem_range.mp hi)
theorem tab_set {m : Nat} {f : Nat → Int} {j : Nat} {v : Int} (h : j < m) : (tabL m f).set j v = tabL m fun i => if i = j then v else f i := by
  refine List.ext_getElem? fun i => ?_
  by_cases hi : i < m
  · rw [tab_get hi]
    by_cases c : i = j
    · rw [c, List.getElem?_set_self (by rw [tab_length]; exact h), if_pos rfl]
    · rw [List.getElem?_set_ne (Ne.symm c), tab_get hi, if_neg c]
  · rw [List.getElem?_eq_none (by rw [List.length_set, tab_length]; omega), List.getElem?_eq_none (by rw [tab_length]; omega)]
theorem tab_self (r : List Int) : tabL r.length (fun i => r.getD i 0) = r := by
  refine List.ext_getElem? fun i => ?_
  by_cases hi : i < r.length
  · rw [tab_get hi, List.getElem?_eq_getElem hi, List.getD_eq_getElem?_getD, List.getElem?_eq_getElem hi]
    rfl
  · rw [List.getElem?_eq_none (by rw [tab_length]; omega), List.getElem?_eq_none (by omega)]
theorem tab_zero (m : Nat) : List.replicate m (0 : Int) = tabL m fun _ => 0 := by
  refine List.ext_getElem? fun i => ?_
  rw [List.getElem?_replicate]
  by_cases hi : i < m
  · rw [tab_get hi, if_pos hi]
  · rw [if_neg hi, List.getElem?_eq_none (by rw [tab_length]; omega)]
theorem given_tab (m : Nat) (f : Nat → Int) : given m (fun _ => true) (fun i => V.int (f i)) = vi (tabL m f) := given_ints _ _
/-! ### the row of counts -/
def part (c : List Int) (i : Nat) : Nat → Int
  | 0 => 0
  | k + 1 => part c i k + (if (i + 1) % (k + 1) = 0 then ((k + 1 : Nat) : Int) * c.getD k 0 else 0)
def rowL (c : List Int) : List Int := tabL c.length fun i => part c i (i + 1)
theorem rowL_length (c : List Int) : (rowL c).length = c.length := tab_length _ _
theorem part_stay (c : List Int) (i : Nat) {k : Nat} (h : i + 1 ≤ k) : part c i k = part c i (i + 1) := by
  induction k with
  | zero => omega
  | succ k ih =>
    by_cases e : i = k
    · rw [e]
    · show part c i k + (if (i + 1) % (k + 1) = 0 then _ else 0) = _
      rw [if_neg (by rw [Nat.mod_eq_of_lt (by omega)]; omega), ih (by omega), Int.add_zero]
/-- j is the t-th multiple of n -/
theorem mul_ix {n t i : Nat} (hn : 0 < n) (h : (i + 1) % n = 0) : (i + 1) / n ≤ t + 1 ↔ (i + 1) / n ≤ t ∨ i + 1 = n * (t + 1) := by
  have e := Nat.div_add_mod (i + 1) n
  rw [h, Nat.add_zero] at e
  constructor
  · intro k
    by_cases c : (i + 1) / n ≤ t
    · exact .inl c
    · right
      rw [← e, show (i + 1) / n = t + 1 by omega]
  · rintro (k | k)
    · omega
    · rw [k, Nat.mul_div_cancel_left _ hn]
      exact Nat.le_refl _
theorem mul_mod {n t : Nat} (hn : 0 < n) : (n * (t + 1) - 1 + 1) % n = 0 ∧ (n * (t + 1) - 1 + 1) / n = t + 1 := by
  have : 0 < n * (t + 1) := Nat.mul_pos hn (Nat.succ_pos t)
  rw [show n * (t + 1) - 1 + 1 = n * (t + 1) by omega]
  exact ⟨Nat.mul_mod_right _ _, Nat.mul_div_cancel_left _ hn⟩
/-! ### new numbers -/
def sub (r : List Int) : Nat → Nat → Int
  | 0, i => r.getD i 0
  | k + 1, i => sub r k i - (if k < i ∧ (i + 1) % (k + 1) = 0 then sub r k k else 0)
def newL (r : List Int) : List Int := tabL r.length (sub r r.length)
theorem newL_length (r : List Int) : (newL r).length = r.length := tab_length _ _
theorem sub_row (c : List Int) (k : Nat) : ∀ i, i < c.length → sub (rowL c) k i = part c i (i + 1) - part c i (min k i) := by
  induction k with
  | zero =>
    intro i hi
    show (rowL c).getD i 0 = _
    rw [Nat.zero_min]
    unfold rowL
    rw [tab_getD hi]
    show _ = _ - (0 : Int)
    omega
  | succ k ih =>
    intro i hi
    show sub (rowL c) k i - (if k < i ∧ (i + 1) % (k + 1) = 0 then sub (rowL c) k k else 0) = _
    rw [ih i hi]
    by_cases h : k < i
    · rw [show min (k + 1) i = k + 1 by omega, show min k i = k by omega]
      have ek : part c i (k + 1) = part c i k + (if (i + 1) % (k + 1) = 0 then ((k + 1 : Nat) : Int) * c.getD k 0 else 0) := rfl
      by_cases h2 : (i + 1) % (k + 1) = 0
      · have e3 : part c k (k + 1) = part c k k + (if (k + 1) % (k + 1) = 0 then ((k + 1 : Nat) : Int) * c.getD k 0 else 0) := rfl
        rw [if_pos (Nat.mod_self _)] at e3
        rw [if_pos h2] at ek
        rw [if_pos ⟨h, h2⟩, ih k (by omega), Nat.min_self, ek, e3]
        omega
      · rw [if_neg h2] at ek
        rw [if_neg fun z => h2 z.2, ek]
        omega
    · rw [if_neg fun z => h z.1, show min (k + 1) i = i by omega, show min k i = i by omega]
      omega
theorem new_row (c : List Int) : newL (rowL c) = tabL c.length fun i => ((i + 1 : Nat) : Int) * c.getD i 0 := by
  unfold newL
  rw [rowL_length]
  refine tab_congr fun i hi => ?_
  rw [sub_row c _ i hi, show min c.length i = i by omega]
  have e3 : part c i (i + 1) = part c i i + (if (i + 1) % (i + 1) = 0 then ((i + 1 : Nat) : Int) * c.getD i 0 else 0) := rfl
  rw [if_pos (Nat.mod_self _)] at e3
  rw [e3]
  omega
/-- no bar -/
def Free (r : List Int) : Prop := ∀ i, i < r.length → ∃ q : Int, 0 ≤ q ∧ (newL r).getD i 0 = ((i + 1 : Nat) : Int) * q
theorem free_row {c : List Int} (h : ∀ n ∈ c, 0 ≤ n) : Free (rowL c) := fun i hi => by
  rw [rowL_length] at hi
  refine ⟨c.getD i 0, ?_, by rw [new_row, tab_getD hi]⟩
  rw [List.getD_eq_getElem?_getD, List.getElem?_eq_getElem hi]
  exact h _ (List.getElem_mem hi)
def ringsR (r : List Int) : List Int := tabL r.length fun i => (newL r).getD i 0 / ((i + 1 : Nat) : Int)
theorem rings_row (c : List Int) : ringsR (rowL c) = c := by
  unfold ringsR
  rw [rowL_length]
  refine (tab_congr fun i hi => ?_).trans (tab_self c)
  rw [new_row, tab_getD hi, Int.mul_ediv_cancel_left _ (by omega)]
def addL (xs ys : List Int) : List Int := tabL (min xs.length ys.length) fun i => xs.getD i 0 + ys.getD i 0
theorem getD_at {xs : List Int} {i : Nat} (h : i < xs.length) : (vi xs)[i]? = some (.int (xs.getD i 0)) := by
  rw [vi_at h, List.getD_eq_getElem?_getD, List.getElem?_eq_getElem h]
  rfl

/-! ### tables -/
def vmul (v : List Int) (A : List (List Int)) : List Int := tabL A.length fun k => (tabL A.length fun j => v.getD j 0 * (A.getD j []).getD k 0).sum
/-- the table of as many and one steps -/
def wlk (A : List (List Int)) : Nat → List (List Int)
  | 0 => A
  | i + 1 => (wlk A i).map fun w => vmul w A
def trc (m : Nat) (B : List (List Int)) : Int := (tabL m fun j => (B.getD j []).getD j 0).sum
/-- how many walks of 1, 2 and so on steps come back -/
def wrow (A : List (List Int)) (n : Nat) : List Int := tabL n fun i => trc A.length (wlk A i)
theorem vmul_length (v : List Int) (A : List (List Int)) : (vmul v A).length = A.length := tab_length _ _
theorem wlk_length (A : List (List Int)) : ∀ i, (wlk A i).length = A.length
  | 0 => rfl
  | i + 1 => by
    show ((wlk A i).map _).length = _
    rw [List.length_map, wlk_length A i]
structure TabOk (A : List (List Int)) : Prop where
  l0 : 1 ≤ A.length
  l1 : A.length ≤ 6
  sq : ∀ r ∈ A, r.length = A.length
  val : ∀ r ∈ A, ∀ x ∈ r, 0 ≤ x ∧ x ≤ 1000000
theorem wlk_sq {A : List (List Int)} (h : ∀ r ∈ A, r.length = A.length) : ∀ i, ∀ r ∈ wlk A i, r.length = A.length
  | 0 => h
  | i + 1 => fun r hr => by
    obtain ⟨w, _, rfl⟩ := List.mem_map.mp hr
    exact vmul_length w A
/-- a list of lists, or a tuple of tuples, of numbers -/
def MatH (K : PySem.W.Frag) (k : Bool) (H : Hp) (a : Addr) (B : List (List Int)) : Prop := ∃ rs : List Addr, SqX K k H a (rs.map V.ref) ∧ Paired (fun r xs => SqX K k H r (vi xs)) rs B
theorem MatH.ex {K : PySem.W.Frag} {k : Bool} {H H' : Hp} {a : Addr} {B : List (List Int)} (h : MatH K k H a B) (e : Ex H H') : MatH K k H' a B := by
  obtain ⟨rs, h1, h2⟩ := h
  exact ⟨rs, ex_x e h1, paired_mono h2 fun r _ xs hr => ex_x e hr⟩
theorem MatH.row {K : PySem.W.Frag} {k : Bool} {H : Hp} {a : Addr} {B : List (List Int)} (h : MatH K k H a B) : ∃ rs : List Addr, rs.length = B.length ∧ SqX K k H a (rs.map V.ref) ∧ ∀ (i : Nat) (xs : List Int), B[i]? = some xs → ∃ r, (rs.map V.ref)[i]? = some (.ref r) ∧ SqX K k H r (vi xs) := by
  obtain ⟨rs, h1, h2⟩ := h
  refine ⟨rs, h2.length, h1, fun i xs hx => ?_⟩
  obtain ⟨r, hr, q⟩ := paired_get' h2 hx
  exact ⟨r, by rw [List.getElem?_map, hr]; rfl, q⟩
/-- what is new -/
def newH (H H2 : Hp) : Hp := fun b => if H b = none then H2 b else none
theorem ex_new {H H2 : Hp} : Ex (newH H H2) H2 := fun b o h => by
  unfold newH at h
  by_cases c : H b = none
  · rw [if_pos c] at h
    exact h
  · rw [if_neg c] at h
    cases h
theorem newH_at {H H2 : Hp} {b : Addr} {o : HO} (h : H2 b = some o) (n : H b = none) : newH H H2 b = some o := by
  unfold newH
  rw [if_pos n]
  exact h
theorem newH_back {H H1 H2 : Hp} (e : Ex H H1) : Ex (newH H1 H2) (newH H H2) := fun b o h => by
  by_cases c : H1 b = none
  · exact newH_at (ex_new _ _ h) (fresh_back e c)
  · unfold newH at h
    rw [if_neg c] at h
    cases h
theorem newH_hid {H H2 : Hp} {p : Addr} {o : HO} (h : H p = some o) : Ex (newH H H2) (hid p H2) := fun b u q => by
  by_cases c : H b = none
  · rw [hid_ne (ne_of_none' c h)]
    exact ex_new _ _ q
  · unfold newH at q
    rw [if_neg c] at q
    cases q
theorem ex_to_hid {H H2 : Hp} {p : Addr} (e : Ex H H2) (n : H p = none) : Ex H (hid p H2) := fun b o h => by
  rw [hid_ne (ne_of_none h n)]
  exact e _ _ h
theorem hid_upd {H : Hp} {p : Addr} {o : HO} : hid p (upd H p o) = hid p H := by
  funext b
  unfold hid
  by_cases c : b = p
  · rw [if_pos c, if_pos c]
  · rw [if_neg c, if_neg c, upd_ne c]
theorem hid_ex {H H2 : Hp} {p : Addr} (e : Ex H H2) : Ex (hid p H) (hid p H2) := fun b o h => by
  by_cases c : b = p
  · rw [c] at h
    unfold hid at h
    rw [if_pos rfl] at h
    cases h
  · rw [hid_ne c] at h ⊢
    exact e _ _ h
def EvMt (K : PySem.W.Frag) (te : TE) (σ : L2.St) (H : Hp) (B : List (List Int)) : Prop := ∀ H1, Ex H H1 → ∀ Q : VK, (∀ p H2, H1 p = none → Ex H1 H2 → MatH K false (newH H1 H2) p B → Q (.ref p) H2) → te σ H1 Q
theorem q_asgMt {K : PySem.W.Frag} {te : TE} {D : Ends} {tz : TS} {σ : L2.St} {H : Hp} {i : Nat} {B : List (List Int)} (h : EvMt K te σ H B) (k : ∀ p H1, H p = none → Ex H H1 → MatH K false (newH H H1) p B → tz D (σ.set i (some (.ref p))) H1) : tSeq (tAsg te (gName i)) tz D σ H := h H (Ex.refl H) _ k
theorem s_asgMt {K : PySem.W.Frag} {te : TE} {D : Ends} {σ : L2.St} {H : Hp} {i : Nat} {B : List (List Int)} (h : EvMt K te σ H B) (k : ∀ p H1, H p = none → Ex H H1 → MatH K false (newH H H1) p B → D.nx (σ.set i (some (.ref p))) H1) : tAsg te (gName i) D σ H := h H (Ex.refl H) _ k
theorem getD_mem {α : Type} {xs : List α} {d : α} {i : Nat} (h : i < xs.length) : xs.getD i d ∈ xs := by
  rw [List.getD_eq_getElem?_getD, List.getElem?_eq_getElem h]
  exact List.getElem_mem h
theorem get_getD {α : Type} {xs : List α} {d : α} {i : Nat} (h : i < xs.length) : xs[i]? = some (xs.getD i d) := by
  rw [List.getD_eq_getElem?_getD, List.getElem?_eq_getElem h]
  rfl
theorem vcol_vi {A : List (List Int)} {k : Nat} (h : ∀ r ∈ A, k < r.length) : vcol (A.map vi) k = vi (A.map fun r => r.getD k 0) := by
  unfold vcol vi
  rw [List.map_map, List.map_map]
  refine List.map_congr_left fun r hr => ?_
  show (r.map V.int).getD k V.non = V.int (r.getD k 0)
  rw [List.getD_eq_getElem?_getD, List.getElem?_map, get_getD (d := (0 : Int)) (h r hr)]
  rfl
theorem map_tab {α : Type} (d : α) (A : List α) (f : α → Int) : A.map f = tabL A.length fun j => f (A.getD j d) := by
  refine List.ext_getElem? fun i => ?_
  by_cases hi : i < A.length
  · rw [tab_get hi, List.getElem?_map, get_getD (d := d) hi]
    rfl
  · rw [List.getElem?_eq_none (by rw [List.length_map]; omega), List.getElem?_eq_none (by rw [tab_length]; omega)]
theorem given_yes_tab (n : Nat) (f : Nat → Int) : given n (fun _ => true) (fun i => V.int (f i)) = vi (tabL n f) := by
  unfold given tabL vi
  rw [List.map_map, List.filter_eq_self.mpr fun _ _ => rfl]
  rfl
theorem given_congr {n : Nat} {f : Nat → Bool} {v w : Nat → V} (h : ∀ i, i < n → v i = w i) : given n f v = given n f w := by
  unfold given
  exact List.map_congr_left fun i hi => h i (List.mem_range.mp (List.mem_filter.mp hi).1)
theorem min_self' (n : Nat) : min n n = n := Nat.min_self n

theorem well_upd {H : Hp} {a p : Addr} {n : Nat} {o : HO} (w : Well H a n) (h : p ≠ a) : Well (upd H p o) a n := by
  obtain ⟨x, y, c, q1, q2⟩ := w
  exact ⟨x, y, c, by rw [upd_ne (Ne.symm h)]; exact q1, q2⟩

def EvWM (K : PySem.W.Frag) (a : Addr) (d : Nat) (te : TE) (σ : L2.St) (H : Hp) (P : List (List Int) → Prop) : Prop := ∀ (n : Nat) (H1 : Hp), But a H H1 → Well H1 a n → n + d ≤ 2 ^ 50 → ∀ Q : VK, (∀ p A H2, H1 p = none → But a H1 H2 → Well H2 a (n + d) → MatH K true (hid a H2) p A → P A → Q (.ref p) H2) → te σ H1 Q
theorem qw_asgWM {K : PySem.W.Frag} {a : Addr} {d n i : Nat} {te : TE} {σ : L2.St} {H : Hp} {D : Ends} {tz : TS} {P : List (List Int) → Prop} (h : EvWM K a d te σ H P) (w : Well H a n) (l : n + d ≤ 2 ^ 50)
    (k : ∀ p A H1, H p = none → But a H H1 → Well H1 a (n + d) → MatH K true (hid a H1) p A → P A → tz D (σ.set i (some (.ref p))) H1) : tSeq (tAsg te (gName i)) tz D σ H :=
  h n H (But.refl a H) w l _ fun p A H2 hp b2 w2 m pa => k p A H2 hp b2 w2 m pa
theorem hid_but {a : Addr} {H H2 : Hp} (b : But a H H2) : Ex (hid a H) (hid a H2) := fun x o h => by
  by_cases c : x = a
  · rw [c] at h
    unfold hid at h
    rw [if_pos rfl] at h
    cases h
  · rw [hid_ne c] at h ⊢
    exact b _ _ c h
theorem well_tup {H : Hp} {a r : Addr} {n : Nat} {xs : List V} (w : Well H a n) (h : H r = some (.tup xs)) : r ≠ a := fun e => by
  obtain ⟨x, y, c, h1, _⟩ := w
  rw [e, h1] at h
  cases h
theorem s_appWU {K : PySem.W.Frag} {σ : L2.St} {H : Hp} {ta te : TE} {D : Ends} {a l : Addr} {d n : Nat} {xs : List V} {PL : List V → Prop} (hl : H l = some (.lst xs)) (nl : l ≠ a) (ha : Ev ta σ H (.ref l)) (h : EvWU a d te σ H PL) (w : Well H a n) (hn : n + d ≤ 2 ^ 50) (hz : xs.length < 100000)
    (k : ∀ t ys H1, But a H H1 → Well H1 a (n + d) → H1 t = some (.tup ys) → PL ys → D.nx σ (upd H1 l (.lst (xs ++ [.ref t])))) : tDrop (tBM K "list" rAppend ta (tCons te tNil)) D σ H := ha H (Ex.refl H) _ fun H1 e1 =>
  ⟨Or.inl ⟨rfl, xs, sq_of (e1 l _ hl)⟩, h n H1 (But.ex e1) (w.ex e1) hn _ fun t ys H2 ht b2 w2 g2 py => ⟨l, xs, .ref t, rfl, rfl, b2 _ _ nl (e1 _ _ hl), sz_lt hz, k t ys H2 ((But.ex e1).trans b2) w2 g2 py⟩⟩

/-! ### going from one place -/
def unit (m s : Nat) : List Int := tabL m fun j => if j = s then 1 else 0
def vst (A : List (List Int)) (s : Nat) : Nat → List Int
  | 0 => unit A.length s
  | i + 1 => vmul (vst A s i) A
theorem vst_length (A : List (List Int)) (s : Nat) : ∀ i, (vst A s i).length = A.length
  | 0 => tab_length _ _
  | i + 1 => vmul_length _ _
theorem sum_unit (f : Nat → Int) (s : Nat) : ∀ m, (tabL m fun j => (if j = s then 1 else 0) * f j).sum = if s < m then f s else 0
  | 0 => by simp [tabL]
  | m + 1 => by
    unfold tabL
    rw [List.range_succ, List.map_append, List.sum_append]
    have ih := sum_unit f s m
    unfold tabL at ih
    rw [ih]
    by_cases c : m = s
    · subst c
      simp
    · by_cases d : s < m
      · rw [if_pos d, if_pos (by omega)]
        simp [c]
      · rw [if_neg d, if_neg (by omega)]
        simp [c]
theorem vmul_unit {A : List (List Int)} (sq : ∀ r ∈ A, r.length = A.length) {s : Nat} (hs : s < A.length) : vmul (unit A.length s) A = A.getD s [] := by
  have hr := sq _ (getD_mem (d := []) hs)
  refine List.ext_getElem? fun k => ?_
  by_cases hk : k < A.length
  · unfold vmul
    rw [tab_get hk, get_getD (d := (0 : Int)) (by rw [hr]; exact hk)]
    refine congrArg some ?_
    have : (tabL A.length fun j => (unit A.length s).getD j 0 * (A.getD j []).getD k 0) = tabL A.length fun j => (if j = s then 1 else 0) * (A.getD j []).getD k 0 := tab_congr fun j hj => by
      unfold unit
      rw [tab_getD hj]
    rw [this, sum_unit (fun j => (A.getD j []).getD k 0), if_pos hs]
  · rw [List.getElem?_eq_none (by rw [vmul_length]; omega), List.getElem?_eq_none (by omega)]
theorem map_getD {α β : Type} {xs : List α} {f : α → β} {d : α} {e : β} {i : Nat} (h : i < xs.length) : (xs.map f).getD i e = f (xs.getD i d) := by
  rw [List.getD_eq_getElem?_getD, List.getElem?_map, get_getD (d := d) h]
  rfl
theorem wlk_row {A : List (List Int)} (sq : ∀ r ∈ A, r.length = A.length) {s : Nat} (hs : s < A.length) : ∀ t, (wlk A t).getD s [] = vst A s (t + 1)
  | 0 => (vmul_unit sq hs).symm
  | t + 1 => by
    show ((wlk A t).map _).getD s [] = vmul (vst A s (t + 1)) A
    rw [map_getD (d := []) (by rw [wlk_length]; exact hs), wlk_row sq hs t]
/-- what the law finds behind the first places -/
def duek (A : List (List Int)) (k t : Nat) : Int := (tabL k fun s => (vst A s (t + 1)).getD s 0).sum
theorem duek_succ (A : List (List Int)) (k t : Nat) : duek A (k + 1) t = duek A k t + (vst A k (t + 1)).getD k 0 := by
  unfold duek tabL
  rw [List.range_succ, List.map_append, List.sum_append]
  simp
theorem due_wrow {A : List (List Int)} (sq : ∀ r ∈ A, r.length = A.length) (n : Nat) : tabL n (duek A A.length) = wrow A n := by
  refine tab_congr fun t _ => ?_
  unfold duek trc
  refine congrArg List.sum (tab_congr fun s hs => ?_)
  rw [wlk_row sq hs]
theorem due0 (A : List (List Int)) (n : Nat) : List.replicate n 0 = tabL n (duek A 0) := by
  refine List.ext_getElem? fun i => ?_
  by_cases hi : i < n
  · rw [tab_get hi, List.getElem?_replicate_of_lt hi]
    rfl
  · rw [List.getElem?_eq_none (by rw [List.length_replicate]; omega), List.getElem?_eq_none (by rw [tab_length]; omega)]
theorem rgV_len (n : Nat) : (rgV 0 (n : Int)).length = n := by
  rw [rgV_length]
  omega
theorem rgV_at {n k : Nat} {x : V} (h : (rgV 0 (n : Int))[k]? = some x) : x = .int (k : Int) ∧ k < n := by
  have hk : k < n := by
    have := (List.getElem?_eq_some_iff.mp h).1
    rwa [rgV_len] at this
  unfold rgV at h
  rw [List.getElem?_map, List.getElem?_range (by omega)] at h
  have := Option.some.inj h
  exact ⟨by rw [← this]; exact congrArg V.int (Int.zero_add _), hk⟩
theorem wrow_length (A : List (List Int)) (n : Nat) : (wrow A n).length = n := tab_length _ _
theorem wrow_take {A : List (List Int)} {n k : Nat} (h : k ≤ n) : (wrow A n).take k = wrow A k := by
  unfold wrow tabL
  rw [← List.map_take, List.take_range, Nat.min_eq_left h]

end My
namespace My
open PySem PySem.Spec PyProof.Rows L2 Evl Bk

def topS (i : Nat) : Stmt := PySem.Challenge.pw_backafter_k66_walks_by_going.main.body.getD i (.Pass ⟨0, 0, 0, 0⟩)
abbrev s_is_whole : Stmt := topS 6
theorem sc_is_whole : FnScope ["value"] ["value"] (defScope s_is_whole) := ⟨rfl, rfl, rfl, by decide +kernel, rfl, by decide +kernel, by decide +kernel⟩
abbrev s_with_a_step : Stmt := topS 14
theorem sc_with_a_step : FnScope ["walks", "table", "columns", "walk", "column", "some", "more"] ["walks", "table"] (defScope s_with_a_step) := ⟨rfl, rfl, rfl, by decide +kernel, rfl, by decide +kernel, by decide +kernel⟩
abbrev s_law_well : Stmt := topS 17
theorem sc_law_well : FnScope ["script", "k", "cell"] ["script", "k"] (defScope s_law_well) := ⟨rfl, rfl, rfl, by decide +kernel, rfl, by decide +kernel, by decide +kernel⟩
abbrev s_law_draw : Stmt := topS 18
theorem sc_law_draw : FnScope ["well", "many", "found", "mixed"] ["well", "many"] (defScope s_law_draw) := ⟨rfl, rfl, rfl, by decide +kernel, rfl, by decide +kernel, by decide +kernel⟩
abbrev s_law_next : Stmt := topS 20
theorem sc_law_next : FnScope ["lines", "ways", "places", "j", "i"] ["lines", "ways"] (defScope s_law_next) := ⟨rfl, rfl, rfl, by decide +kernel, rfl, by decide +kernel, by decide +kernel⟩
abbrev s_is_from_to : Stmt := topS 7
theorem sc_is_from_to : FnScope ["value", "least", "most"] ["value", "least", "most"] (defScope s_is_from_to) := ⟨rfl, rfl, rfl, by decide +kernel, rfl, by decide +kernel, by decide +kernel⟩
abbrev s_row_of_walks : Stmt := topS 13
theorem sc_row_of_walks : FnScope ["table", "many", "walks", "row", "_", "place"] ["table", "many"] (defScope s_row_of_walks) := ⟨rfl, rfl, rfl, by decide +kernel, rfl, by decide +kernel, by decide +kernel⟩
abbrev s_law_lines : Stmt := topS 19
theorem sc_law_lines : FnScope ["well", "places", "most", "lines", "i", "j"] ["well", "places", "most"] (defScope s_law_lines) := ⟨rfl, rfl, rfl, by decide +kernel, rfl, by decide +kernel, by decide +kernel⟩
abbrev s_law_due : Stmt := topS 21
theorem sc_law_due : FnScope ["lines", "most", "found", "start", "ways", "turn", "place"] ["lines", "most"] (defScope s_law_due) := ⟨rfl, rfl, rfl, by decide +kernel, rfl, by decide +kernel, by decide +kernel⟩
abbrev s_check_many : Stmt := topS 8
theorem sc_check_many : FnScope ["many"] ["many"] (defScope s_check_many) := ⟨rfl, rfl, rfl, by decide +kernel, rfl, by decide +kernel, by decide +kernel⟩
abbrev s_check_table : Stmt := topS 15
theorem sc_check_table : FnScope ["table", "steps", "number"] ["table"] (defScope s_check_table) := ⟨rfl, rfl, rfl, by decide +kernel, rfl, by decide +kernel, by decide +kernel⟩
abbrev s_walk_row : Stmt := topS 12
theorem sc_walk_row : FnScope ["table", "many"] ["table", "many"] (defScope s_walk_row) := ⟨rfl, rfl, rfl, by decide +kernel, rfl, by decide +kernel, by decide +kernel⟩
abbrev s_law_right : Stmt := topS 22
theorem sc_law_right : FnScope ["well", "lines", "way", "most", "due", "found", "fewer"] ["well"] (defScope s_law_right) := ⟨rfl, rfl, rfl, by decide +kernel, rfl, by decide +kernel, by decide +kernel⟩
abbrev s_law : Stmt := topS 23
theorem sc_law : FnScope ["script", "k"] ["script"] (defScope s_law) := ⟨rfl, rfl, rfl, by decide +kernel, rfl, by decide +kernel, by decide +kernel⟩
/-- where the defs of the text stand behind the top -/
structure Txt (K : PySem.W.Frag) (mg : Str → Option Value) where
  a_is_whole : Addr
  d_is_whole : FuncData
  F_is_whole : Fun K "is_whole" "is_whole" s_is_whole a_is_whole d_is_whole
  g_is_whole : mg "is_whole" = some (.ref a_is_whole)
  a_with_a_step : Addr
  d_with_a_step : FuncData
  F_with_a_step : Fun K "_with_a_step" "_with_a_step" s_with_a_step a_with_a_step d_with_a_step
  g_with_a_step : mg "_with_a_step" = some (.ref a_with_a_step)
  a_law_well : Addr
  d_law_well : FuncData
  F_law_well : Fun K "_law_well" "_law_well" s_law_well a_law_well d_law_well
  g_law_well : mg "_law_well" = some (.ref a_law_well)
  a_law_draw : Addr
  d_law_draw : FuncData
  F_law_draw : Fun K "_law_draw" "_law_draw" s_law_draw a_law_draw d_law_draw
  g_law_draw : mg "_law_draw" = some (.ref a_law_draw)
  a_law_next : Addr
  d_law_next : FuncData
  F_law_next : Fun K "_law_next" "_law_next" s_law_next a_law_next d_law_next
  g_law_next : mg "_law_next" = some (.ref a_law_next)
  a_is_from_to : Addr
  d_is_from_to : FuncData
  F_is_from_to : Fun K "is_from_to" "is_from_to" s_is_from_to a_is_from_to d_is_from_to
  g_is_from_to : mg "is_from_to" = some (.ref a_is_from_to)
  a_row_of_walks : Addr
  d_row_of_walks : FuncData
  F_row_of_walks : Fun K "row_of_walks" "row_of_walks" s_row_of_walks a_row_of_walks d_row_of_walks
  g_row_of_walks : mg "row_of_walks" = some (.ref a_row_of_walks)
  a_law_lines : Addr
  d_law_lines : FuncData
  F_law_lines : Fun K "_law_lines" "_law_lines" s_law_lines a_law_lines d_law_lines
  g_law_lines : mg "_law_lines" = some (.ref a_law_lines)
  a_law_due : Addr
  d_law_due : FuncData
  F_law_due : Fun K "_law_due" "_law_due" s_law_due a_law_due d_law_due
  g_law_due : mg "_law_due" = some (.ref a_law_due)
  a_check_many : Addr
  d_check_many : FuncData
  F_check_many : Fun K "check_many" "check_many" s_check_many a_check_many d_check_many
  g_check_many : mg "check_many" = some (.ref a_check_many)
  a_check_table : Addr
  d_check_table : FuncData
  F_check_table : Fun K "check_table" "check_table" s_check_table a_check_table d_check_table
  g_check_table : mg "check_table" = some (.ref a_check_table)
  a_walk_row : Addr
  d_walk_row : FuncData
  F_walk_row : Fun K "walk_row" "walk_row" s_walk_row a_walk_row d_walk_row
  g_walk_row : mg "walk_row" = some (.ref a_walk_row)
  a_law_right : Addr
  d_law_right : FuncData
  F_law_right : Fun K "_law_right" "_law_right" s_law_right a_law_right d_law_right
  g_law_right : mg "_law_right" = some (.ref a_law_right)
  a_law : Addr
  d_law : FuncData
  F_law : Fun K "law" "law" s_law a_law d_law
  g_law : mg "law" = some (.ref a_law)
  t_MOST_NUMBERS : Tok
  c_MOST_NUMBERS : mg "MOST_NUMBERS" = some (.int (300) t_MOST_NUMBERS)
  t_MOST_PLACES : Tok
  c_MOST_PLACES : mg "MOST_PLACES" = some (.int (6) t_MOST_PLACES)
  t_MOST_STEPS : Tok
  c_MOST_STEPS : mg "MOST_STEPS" = some (.int (1000000) t_MOST_STEPS)
  z_abs : mg "abs" = none
  z_all : mg "all" = none
  z_bool : mg "bool" = none
  z_int : mg "int" = none
  z_isinstance : mg "isinstance" = none
  z_len : mg "len" = none
  z_list : mg "list" = none
  z_max : mg "max" = none
  z_min : mg "min" = none
  z_range : mg "range" = none
  z_sum : mg "sum" = none
  z_tuple : mg "tuple" = none
  z_zip : mg "zip" = none
section
variable {P : Program} {w : World} {K : PySem.W.Frag} {mg : Str → Option Value} {base : Heap}
theorem b_is_whole (T : Txt K mg) : Binds K T.d_is_whole ["value"] [] := T.F_is_whole.binds fun _ _ _ _ _ _ us hl => match us, hl with | [_], _ => rfl
theorem b_with_a_step (T : Txt K mg) : Binds K T.d_with_a_step ["walks", "table"] [] := T.F_with_a_step.binds fun _ _ _ _ _ _ us hl => match us, hl with | [_, _], _ => rfl
theorem b_law_well (T : Txt K mg) : Binds K T.d_law_well ["script", "k"] [] := T.F_law_well.binds fun _ _ _ _ _ _ us hl => match us, hl with | [_, _], _ => rfl
theorem b_law_draw (T : Txt K mg) : Binds K T.d_law_draw ["well", "many"] [] := T.F_law_draw.binds fun _ _ _ _ _ _ us hl => match us, hl with | [_, _], _ => rfl
theorem b_law_next (T : Txt K mg) : Binds K T.d_law_next ["lines", "ways"] [] := T.F_law_next.binds fun _ _ _ _ _ _ us hl => match us, hl with | [_, _], _ => rfl
theorem b_is_from_to (T : Txt K mg) : Binds K T.d_is_from_to ["value", "least", "most"] [] := T.F_is_from_to.binds fun _ _ _ _ _ _ us hl => match us, hl with | [_, _, _], _ => rfl
theorem b_row_of_walks (T : Txt K mg) : Binds K T.d_row_of_walks ["table", "many"] [] := T.F_row_of_walks.binds fun _ _ _ _ _ _ us hl => match us, hl with | [_, _], _ => rfl
theorem b_law_lines (T : Txt K mg) : Binds K T.d_law_lines ["well", "places", "most"] [] := T.F_law_lines.binds fun _ _ _ _ _ _ us hl => match us, hl with | [_, _, _], _ => rfl
theorem b_law_due (T : Txt K mg) : Binds K T.d_law_due ["lines", "most"] [] := T.F_law_due.binds fun _ _ _ _ _ _ us hl => match us, hl with | [_, _], _ => rfl
theorem b_check_many (T : Txt K mg) : Binds K T.d_check_many ["many"] [] := T.F_check_many.binds fun _ _ _ _ _ _ us hl => match us, hl with | [_], _ => rfl
theorem b_check_table (T : Txt K mg) : Binds K T.d_check_table ["table"] [] := T.F_check_table.binds fun _ _ _ _ _ _ us hl => match us, hl with | [_], _ => rfl
theorem b_walk_row (T : Txt K mg) : Binds K T.d_walk_row ["table", "many"] [] := T.F_walk_row.binds fun _ _ _ _ _ _ us hl => match us, hl with | [_, _], _ => rfl
theorem b_law_right (T : Txt K mg) : Binds K T.d_law_right ["well"] [] := T.F_law_right.binds fun _ _ _ _ _ _ us hl => match us, hl with | [_], _ => rfl
theorem b_law (T : Txt K mg) : Binds K T.d_law ["script"] [] := T.F_law.binds fun _ _ _ _ _ _ us hl => match us, hl with | [_], _ => rfl
theorem k_walk_row_0_many_table (T : Txt K mg) : KBinds K T.d_walk_row ["table", "many"] ["many", "table"] (gK (α := Value) 0 2 [1, 0]) (gK (α := V) 0 2 [1, 0]) := by
  refine ⟨fun s us ws hK hl => ?_, fun {vs us zs ws} r rz => gK_rel r rz⟩
  have hc := gK_len hl (by decide)
  obtain ⟨oc, od, kV, doc, pm, an, cdv, ct, osl, e, lk, hcd⟩ := T.F_walk_row.ex
  match us, ws, hc with
  | [], [_, _], _ =>
    rw [e]
    exact .of_eq rfl
/-! ### is_whole -/
def sp_is_whole (K : PySem.W.Frag) : Sp := fun vs H Q _ => ∃ n : Int, vs = [.int n] ∧ RetV (.bl true) H Q
theorem v_is_whole {K : PySem.W.Frag} {H : Hp} (n : Int) : SpV (sp_is_whole K) [.int n] H (.bl true) := fun H1 e Q q E => ⟨n, rfl, q⟩
theorem ok_is_whole (T : Txt K mg) : FnG P w K mg base CX0 1 T.a_is_whole T.d_is_whole ["value"] (sp_is_whole K) := by
  refine okG T.F_is_whole sc_is_whole (fun vs H Q E h => ?_) (fun cdv A out s H vs Q E hr h => ?_)
  · obtain ⟨n, rfl, q⟩ := h
    rfl
  · obtain ⟨n, rfl, q⟩ := h
    refine ⟨_, (pss_one (ps_ret (pe_and (pe_callB (call_isiK' (K := K) rfl) (by rfl) T.z_isinstance bt_isinstance (pa_cons (pv 0) (pa_cons (pe_bltn (v := .ty "int") (by rfl) T.z_int bt_int rfl) pa_nil))) (pe_one (pe_not (pe_callB (call_isiK' (K := K) rfl) (by rfl) T.z_isinstance bt_isinstance (pa_cons (pv 0) (pa_cons (pe_bltn (v := .ty "bool") (by rfl) T.z_bool bt_bool rfl) pa_nil)))))))), ?_⟩
    exact s_ret (ev_andV (ev_isi (ev_var rfl) (fun _ _ => .base (.int n)) kb_int_int) fun _ => ev_notV (ev_isi (ev_var rfl) (fun _ _ => .base (.int n)) kb_int_bool)) q
/-! ### _with_a_step -/
def sp_with_a_step (K : PySem.W.Frag) : Sp := fun vs H Q _ => ∃ (a b : Addr) (k : Bool) (B A : List (List Int)), vs = [.ref a, .ref b] ∧ MatH K k H a B ∧ MatH K true H b A ∧ TabOk A ∧ B.length ≤ 6 ∧ (∀ r ∈ B, r.length = A.length) ∧
  ∀ p H2, H p = none → Ex H H2 → MatH K false (newH H H2) p (B.map fun w => vmul w A) → Q (.ref p) H2
theorem m_with_a_step {K : PySem.W.Frag} {E : XK} {σ : L2.St} {H : Hp} {a b : Addr} {k : Bool} {B A : List (List Int)} {ta : TA} (h : EvA ta σ H [.ref a, .ref b]) (hB : MatH K k H a B) (hA : MatH K true H b A) (ok : TabOk A) (hl : B.length ≤ 6) (hs : ∀ r ∈ B, r.length = A.length) :
    EvMt K (tCall (sp_with_a_step K) [] E ta) σ H (B.map fun w => vmul w A) := fun H1 e Q q => h H1 e _ fun H2 e2 =>
  ⟨a, b, k, B, A, rfl, hB.ex (e.trans e2), hA.ex (e.trans e2), ok, hl, hs, fun p H3 f e3 m => q p H3 (fresh_back e2 f) (e2.trans e3) (m.ex (newH_back e2))⟩
theorem ok_with_a_step (T : Txt K mg) : FnG P w K mg base CX0 1 T.a_with_a_step T.d_with_a_step ["walks", "table"] (sp_with_a_step K) := by
  refine okG T.F_with_a_step sc_with_a_step (fun vs H Q E h => ?_) (fun cdv A out s H vs Q E hr h => ?_)
  · obtain ⟨a, b, k, B, A, rfl, hB, hA, ok, hl, hs, q⟩ := h
    rfl
  · obtain ⟨a, b, k, B, A, rfl, hB, hA, ok, hl, hs, q⟩ := h
    refine ⟨_, (pss_cons (ps_set (i := 2) sc_with_a_step.nd rfl (.inr rfl) (pe_listZip rfl (by rfl) T.z_list (by rfl) T.z_zip (pv 1)))
    (pss_one (ps_ret (pe_lc (own := [("walk", 3)]) (g := gName 3) rfl sc_with_a_step.nd (pi_anyK (K := K) rfl (pv 0)) (blkOk_by (own := [("walk", 3)]) (N := ["walks", "table", "columns", "walk", "column", "some", "more"]) (sc := defScope s_with_a_step) (by decide +kernel)) (fun _ _ _ _ _ => (pg_name (i := 3) sc_with_a_step.nd rfl (Or.inr rfl))) (fun _ _ _ _ _ => pts_nil) (fun _ _ _ _ _ => (pe_lc (own := [("column", 4)]) (g := gName 4) rfl sc_with_a_step.nd (pi_listK (K := K) rfl (pv 2)) (blkOk_by (own := [("column", 4)]) (N := ["walks", "table", "columns", "walk", "column", "some", "more"]) (sc := _) (by change blkC _ { kind := .function, names := [(".0", .local), ("walk", .cell), ("columns", .cell)], isGenerator := false, isCoroutine := false } _ _ = true; decide +kernel)) (fun _ _ _ _ _ => (pg_name (i := 4) sc_with_a_step.nd rfl (Or.inl rfl))) (fun _ _ _ _ _ => pts_nil) (fun _ _ _ _ _ => (pe_callB (cr_sumK (K := K) rfl rfl) (by rfl) T.z_sum bt_sum (pa_cons (pe_lc (own := [("some", 5), ("more", 6)]) (g := g2 K 5 6) rfl sc_with_a_step.nd (pi_zipX (K := K) rfl (by rfl) T.z_zip (pa_cons (pv 3) (pa_cons (pv 4) pa_nil))) (blkOk_by (own := [("some", 5), ("more", 6)]) (N := ["walks", "table", "columns", "walk", "column", "some", "more"]) (sc := _) (by change blkC _ { kind := .function, names := [(".0", .local), ("column", .local), ("sum", .globalImplicit), ("zip", .globalImplicit), ("walk", .cell)], isGenerator := false, isCoroutine := false } _ _ = true; decide +kernel)) (fun _ _ _ _ _ => (pg_tup rfl (pgs_cons (pg_name (i := 5) sc_with_a_step.nd rfl (Or.inl rfl)) (pgs_cons (pg_name (i := 6) sc_with_a_step.nd rfl (Or.inl rfl)) pgs_nil)))) (fun _ _ _ _ _ => pts_nil) (fun _ _ _ _ _ => (pe_op op_mul (pv 5) (pv 6)))) pa_nil))))))))), ?_⟩
    obtain ⟨rs, hA1, hA2⟩ := id hA
    have l0 := ok.l0
    have l1 := ok.l1
    have lr : rs.length = A.length := hA2.length
    refine q_asgC (ec_zip (xv := A.map vi) (m := A.length) (ev_var rfl) (show SqT K H b _ from hA1) ?_ (by omega) (by omega) l0 (by omega) ?_) fun p qs H1 f1 e1 g1 hq => ?_
    · have : ∀ {rs : List Addr} {A : List (List Int)}, Paired (fun r xs => SqX K true H r (vi xs)) rs A → Paired (fun r xs => SqT K H r xs) rs (A.map vi) := by
        intro rs A h
        induction h with
        | nil => exact .nil
        | cons r t ih => exact .cons r ih
      exact this hA2
    · intro xs hx
      obtain ⟨r, hr, rfl⟩ := List.mem_map.mp hx
      rw [List.length_map, ok.sq r hr]
    obtain ⟨ws, wl, hW, hw⟩ := (hB.ex e1).row
    refine s_retM (em_lcX (k := k) (xs := ws.map V.ref) (fun i => vi (vmul (B.getD i []) A)) (ev_var rfl) hW (by rw [List.length_map]; omega) (fun _ => rfl) fun i x H2 e2 hx => ?_) fun p2 qs2 H2 f2 e2 g2 hq2 hf2 => ?_
    · have hi : i < B.length := by
        have := (List.getElem?_eq_some_iff.mp hx).1
        rw [List.length_map] at this
        omega
      obtain ⟨w, hw1, hw2⟩ := hw i _ (get_getD (d := []) hi)
      rw [hx] at hw1
      cases hw1
      have hwl : (B.getD i []).length = A.length := hs _ (getD_mem hi)
      have hql : qs.length = A.length := by
        rw [hq.length, List.length_map, List.length_range]
      refine el_is (el_lcL (xs := qs.map V.ref) (fun _ => true) (fun c => V.int ((tabL A.length fun j => (B.getD i []).getD j 0 * (A.getD j []).getD c 0).sum)) (ev_var rfl) (sq_of (e2 _ _ g1)) (by rw [List.length_map]; omega) (fun _ => rfl) (fun _ _ _ _ _ => et_yes) fun c x H3 e3 hx _ => ?_) ?_
      · have hc : c < A.length := by
          have := (List.getElem?_eq_some_iff.mp hx).1
          rw [List.length_map] at this
          omega
        obtain ⟨b', hb', hcol⟩ := paired_get' hq (i := c) (b := vcol (A.map vi) c) (by rw [List.getElem?_map, List.getElem?_range hc]; rfl)
        rw [List.getElem?_map, hb'] at hx
        cases hx
        rw [vcol_vi fun r hr => by rw [ok.sq r hr]; exact hc] at hcol
        refine ev_sumN (el_is (el_lcZX (xs := vi (B.getD i [])) (ys := vi (A.map fun r => r.getD c 0)) (k := k) (fun j => V.int ((B.getD i []).getD j 0 * (A.getD j []).getD c 0)) (ev_var rfl) (ev_var rfl) (ex_x (e2.trans e3) hw2) (st_of (e3 _ _ (e2 _ _ hcol))) (by rw [List.length_map, hwl]; omega) (fun _ _ => rfl) fun j x y H4 e4 hx hy => ?_) ?_)
        · obtain ⟨n, rfl, hn, en⟩ := vi_inv hx
          obtain ⟨m, rfl, hm, em⟩ := vi_inv hy
          have hj : j < A.length := by
            have := (List.getElem?_eq_some_iff.mp hn).1
            omega
          rw [List.getElem?_map, get_getD (d := []) hj] at hm
          have em : m = (A.getD j []).getD c 0 := (Option.some.inj hm).symm
          have hAj : A.getD j [] ∈ A := getD_mem hj
          have hv := ok.val _ hAj ((A.getD j []).getD c 0) (getD_mem (by rw [ok.sq _ hAj]; exact hc))
          rw [← en, em]
          exact ev_op (ev_var rfl) (ev_var rfl) (rv_I (.inr (by omega)))
        · rw [List.length_map, List.length_map, List.length_map, hwl, min_self', given_yes_tab]
      · rw [List.length_map, hql, given_yes_tab]
        rfl
    · rw [List.length_map, wl] at hq2
      refine q p2 H2 (fresh_back e1 f2) (e1.trans e2) ⟨qs2, sq_of (newH_at g2 (fresh_back e1 f2)), ?_⟩
      have : ∀ {qs : List Addr} {l : List Nat}, (∀ b ∈ qs, H b = none) → Paired (fun q r => H2 q = some (.lst r)) qs (l.map fun i => vi (vmul (B.getD i []) A)) → Paired (fun r xs => SqX K false (newH H H2) r (vi xs)) qs (l.map fun i => vmul (B.getD i []) A) := by
        intro qs l hn h
        induction l generalizing qs with
        | nil =>
          cases h
          exact .nil
        | cons x l ih =>
          cases h with
          | cons r t => exact .cons (sq_of (newH_at r (hn _ List.mem_cons_self))) (ih (fun b hb => hn b (List.mem_cons_of_mem _ hb)) t)
      have e : (B.map fun w => vmul w A) = (List.range B.length).map fun i => vmul (B.getD i []) A := by
        refine List.ext_getElem? fun i => ?_
        by_cases hi : i < B.length
        · rw [List.getElem?_map, List.getElem?_map, List.getElem?_range hi, get_getD (d := []) hi]
          rfl
        · rw [List.getElem?_eq_none (by rw [List.length_map]; omega), List.getElem?_eq_none (by rw [List.length_map, List.length_range]; omega)]
      rw [e]
      exact this (fun b hb => fresh_back e1 (hf2 b hb)) hq2
/-! ### _law_well -/
def sp_law_well (K : PySem.W.Frag) : Sp := fun vs H Q _ => ∃ (a : Addr) (ns : List Int) (k : Int), vs = [.ref a, .int k] ∧ SqL K H a (vi ns) ∧ 0 ≤ k ∧ k ≤ 63 ∧ ∀ p H2, H p = none → Ex H H2 → Well H2 p 0 → Q (.ref p) H2
theorem ok_law_well (T : Txt K mg) : FnG P w K mg base CX0 1 T.a_law_well T.d_law_well ["script", "k"] (sp_law_well K) := by
  refine okG T.F_law_well sc_law_well (fun vs H Q E h => ?_) (fun cdv A out s H vs Q E hr h => ?_)
  · obtain ⟨a, ns, k, rfl, hS, h0, h1, q⟩ := h
    rfl
  · obtain ⟨a, ns, k, rfl, hS, h0, h1, q⟩ := h
    refine ⟨_, (pss_cons (ps_set (i := 2) sc_law_well.nd rfl (.inl rfl) pe_int)
    (pss_cut (ps_if (pt_cmpR op_lt (pv 1) (pe_callB (call_lenK (K := K) rfl) (by rfl) T.z_len bt_len (pa_cons (pv 0) pa_nil)) (nomark _))
      (pss_one (ps_set (i := 2) sc_law_well.nd rfl (.inl rfl) (pe_callTy call_int1 (by rfl) T.z_int bt_int (pa_cons (pe_ix (ix_listK (K := K) rfl) (pv 0) (pv 1) (fun _ _ => rfl)) pa_nil))))
      pss_nil)
    (pss_one (ps_ret (pe_lst (pa_cons (pe_callB (call_max2 rfl) (by rfl) T.z_max bt_max (pa_cons pe_int (pa_cons (pe_op op_sub (pe_callB call_abs (by rfl) T.z_abs bt_abs (pa_cons (pv 2) pa_nil)) (pe_op op_powW pe_int pe_int)) pa_nil))) (pa_cons (pe_op op_add (pe_op op_add (pe_op op_mul (pe_op op_mod (pe_callTy call_int1 (by rfl) T.z_int bt_int (pa_cons (pv 2) pa_nil)) (pe_op op_add (pe_op op_powW pe_int pe_int) pe_int)) pe_int) (pe_op op_mul pe_int (pv 1))) pe_int) (pa_cons pe_int pa_nil)))))))), ?_⟩
    refine q_asg ev_c fun H0 e0 => ?_
    refine q_cut (M := fun σ' H' => ∃ cell : Int, σ' = [some (.ref a), some (.int k), some (.int cell)] ∧ Ex H H') ?_ ?_
    · refine s_when (b := decide (k < (ns.length : Int))) (et_test (ev_op (ev_var rfl) (ev_is (ev_len (ev_var rfl) (ex_l e0 hS)) (by rw [List.length_map])) (rv_b rfl))) (fun hb H1 e1' => ?_) (fun hb H1 e1' => ?_)
      · have hk := of_decide_eq_true hb
        obtain ⟨j, rfl⟩ : ∃ j : Nat, k = j := ⟨k.toNat, by omega⟩
        have hj : j < ns.length := by omega
        have hx : (vi ns)[j]? = some (.int (ns.getD j 0)) := by
          rw [vi_at hj, List.getD_eq_getElem?_getD, List.getElem?_eq_getElem hj]
          rfl
        refine s_asg (ev_int1 (ev_op (ev_var rfl) (ev_var rfl) (rv_ixL (ex_l (e0.trans e1') hS) (atI_nat hx)))) fun H3 e3 => ?_
        exact ⟨_, rfl, (e0.trans e1').trans e3⟩
      · exact ⟨_, rfl, e0.trans e1'⟩
    rintro σ' H1 ⟨cell, rfl, e1⟩
    refine s_retL (xs := [_, _, _]) (el_lst (ea_cons (ev_max2 ev_c (ev_op (ev_abs (ev_var rfl)) (ev_op ev_c ev_c (rv_I (cpw (by decide) (by decide) (by decide)))) rv_I0)) (ea_cons (ev_op (ev_op (ev_op (ev_op (ev_int1 (ev_var rfl)) (ev_op (ev_op ev_c ev_c (rv_I (cpw (by decide) (by decide) (by decide)))) ev_c rv_I0) (rv_I (by have := p10_pos (Int.toNat 31); omega))) ev_c (rv_I (.inr (by decide)))) (ev_op ev_c (ev_var rfl) (rv_I (cml (by decide)))) rv_I0) ev_c rv_I0) (ea_cons ev_c ea_nil))) (by show 3 ≤ 100000; decide)) fun p H2 hp e2 h2 => ?_
    have b0 := Int.emod_nonneg cell (show (10 : Int) ^ Int.toNat 31 + 33 ≠ 0 by have := p10_pos (Int.toNat 31); omega)
    have b1 := Int.emod_lt_of_pos cell (show (0 : Int) < 10 ^ Int.toNat 31 + 33 by have := p10_pos (Int.toNat 31); omega)
    have e : (10 : Int) ^ Int.toNat 31 = 10000000000000000000000000000000 := by decide
    exact q p H2 (fresh_back e1 hp) (e1.trans e2) ⟨_, _, _, h2, by omega, by omega, by decide, by decide⟩
/-! ### _law_draw -/
abbrev sp_law_draw := sp_dr
theorem ok_law_draw (T : Txt K mg) : FnG P w K mg base CX0 1 T.a_law_draw T.d_law_draw ["well", "many"] (sp_law_draw K) := by
  refine okG T.F_law_draw sc_law_draw (fun vs H Q E h => ?_) (fun cdv A out s H vs Q E hr h => ?_)
  · obtain ⟨a, n, m, rfl, ⟨x, y, c, hW, y0, y1, c0, c1⟩, hn, m0, m1, q⟩ := h
    rfl
  · obtain ⟨a, n, m, rfl, ⟨x, y, c, hW, y0, y1, c0, c1⟩, hn, m0, m1, q⟩ := h
    refine ⟨_, (pss_cons (ps_if (pt_cmpR op_gt (pe_ix (ix_listK (K := K) rfl) (pv 0) pe_int (fun _ _ => rfl)) pe_int (nomark _))
      (pss_cons (ps_set (i := 2) sc_law_draw.nd rfl (.inl rfl) (pe_op op_mod (pe_callTy call_int1 (by rfl) T.z_int bt_int (pa_cons (pe_ix (ix_listK (K := K) rfl) (pv 0) pe_int (fun _ _ => rfl)) pa_nil)) (pv 1)))
      (pss_cons (ps_asg (pe_op op_fdivW (pe_ix (ix_listK (K := K) rfl) (pv 0) pe_int (fun _ _ => rfl)) (pv 1)) (pg_sub (pv 0) pe_int set_list))
      (pss_one (ps_ret (pv 2)))))
      pss_nil)
    (pss_cons (ps_asg (pe_op op_add (pe_ix (ix_listK (K := K) rfl) (pv 0) pe_int (fun _ _ => rfl)) pe_int) (pg_sub (pv 0) pe_int set_list))
    (pss_cons (ps_set (i := 3) sc_law_draw.nd rfl (.inl rfl) (pe_op op_mod (pe_callTy call_int1 (by rfl) T.z_int bt_int (pa_cons (pe_op op_powW (pe_op op_add (pe_op op_mul (pe_ix (ix_listK (K := K) rfl) (pv 0) pe_int (fun _ _ => rfl)) pe_int) (pe_op op_mul pe_int (pe_ix (ix_listK (K := K) rfl) (pv 0) pe_int (fun _ _ => rfl)))) pe_int) pa_nil)) (pe_op op_add (pe_op op_powW pe_int pe_int) pe_int)))
    (pss_cons (ps_set (i := 3) sc_law_draw.nd rfl (.inl rfl) (pe_op op_mod (pe_callTy call_int1 (by rfl) T.z_int bt_int (pa_cons (pe_op op_powW (pe_op op_add (pv 3) (pe_op op_mul pe_int (pe_ix (ix_listK (K := K) rfl) (pv 0) pe_int (fun _ _ => rfl)))) pe_int) pa_nil)) (pe_op op_add (pe_op op_powW pe_int pe_int) pe_int)))
    (pss_one (ps_ret (pe_op op_mod (pe_callTy call_int1 (by rfl) T.z_int bt_int (pa_cons (pe_op op_fdivW (pv 3) (pe_op op_powW pe_int pe_int)) pa_nil)) (pv 1)))))))), ?_⟩
    have hS := sq_of (K := K) hW
    by_cases hx : 0 < x
    · refine q_when (b := true) (et_test (ev_op (ev_op (ev_var rfl) ev_c (rv_ixL hS rfl)) ev_c (rv_b (decide_eq_true hx)))) (fun _ H1 e1 => ?_) (fun h => nomatch h)
      refine q_asg (ev_op (ev_int1 (ev_op (ev_var rfl) ev_c (rv_ixL (ex_l e1 hS) rfl))) (ev_var rfl) (rv_I m0)) fun H2 e2 => ?_
      have hW2 := e2 _ _ (e1 _ _ hW)
      refine q_setL (j := 0) hW2 (ev_op (ev_op (ev_var rfl) ev_c (rv_ixL (sq_of hW2) rfl)) (ev_var rfl) (rv_I (cdw8 _ m0 m1))) (ev_var rfl) ev_c (by show 0 < 3; decide) fun H3 e3 => ?_
      refine s_ret (ev_var rfl) fun H4 e4 => ?_
      refine q _ H4 (((But.ex ((e1.trans e2).trans e3)).trans .at).trans (But.ex e4)) ⟨_, _, _, e4 _ _ upd_same, y0, y1, c0, by omega⟩ (Int.emod_nonneg _ (by omega)) (Int.emod_lt_of_pos _ m0)
    · refine q_when (b := false) (et_test (ev_op (ev_op (ev_var rfl) ev_c (rv_ixL hS rfl)) ev_c (rv_b (decide_eq_false hx)))) (fun h => nomatch h) (fun _ H1 e1 => ?_)
      have hW1 := e1 _ _ hW
      refine q_setL (j := 2) hW1 (ev_op (ev_op (ev_var rfl) ev_c (rv_ixL (sq_of hW1) rfl)) ev_c rv_I0) (ev_var rfl) ev_c (by show 2 < 3; decide) fun H2 e2 => ?_
      have hW2 : upd H2 a (.lst ([.int x, .int y, .int c].set 2 (.int (c + 1)))) a = some (.lst [.int x, .int y, .int (c + 1)]) := upd_same
      have hS2 := sq_of (K := K) hW2
      refine q_asg (ev_op (ev_int1 (ev_op (ev_op (ev_op (ev_op (ev_var rfl) ev_c (rv_ixL hS2 rfl)) ev_c (rv_I (.inr (by decide)))) (ev_op ev_c (ev_op (ev_var rfl) ev_c (rv_ixL hS2 rfl)) (rv_I (cml (by decide)))) rv_I0) ev_c (rv_I (cpw (by omega) (by decide) (by decide))))) (ev_op (ev_op ev_c ev_c (rv_I (cpw (by decide) (by decide) (by decide)))) ev_c rv_I0) (rv_I (by have := p10_pos (Int.toNat 37); omega))) fun H3 e3 => ?_
      have hS3 := ex_l e3 hS2
      have b0 := Int.emod_nonneg ((y * 69621 + 15485863 * (c + 1)) ^ Int.toNat 2) (show (10 : Int) ^ Int.toNat 37 + 43 ≠ 0 by have := p10_pos (Int.toNat 37); omega)
      have b1 := Int.emod_lt_of_pos ((y * 69621 + 15485863 * (c + 1)) ^ Int.toNat 2) (show (0 : Int) < 10 ^ Int.toNat 37 + 43 by have := p10_pos (Int.toNat 37); omega)
      have e37 : (10 : Int) ^ Int.toNat 37 = 10000000000000000000000000000000000000 := by decide
      refine q_asg (ev_op (ev_int1 (ev_op (ev_op (ev_var rfl) (ev_op ev_c (ev_op (ev_var rfl) ev_c (rv_ixL hS3 rfl)) (rv_I (cml (by decide)))) rv_I0) ev_c (rv_I (cpw (by omega) (by decide) (by decide))))) (ev_op (ev_op ev_c ev_c (rv_I (cpw (by decide) (by decide) (by decide)))) ev_c rv_I0) (rv_I (by have := p10_pos (Int.toNat 43); omega))) fun H4 e4 => ?_
      refine s_ret (ev_op (ev_int1 (ev_op (ev_var rfl) (ev_op ev_c ev_c (rv_I (cpw (by decide) (by decide) (by decide)))) (rv_I (cdw _ (p10_pos _) (by decide))))) (ev_var rfl) (rv_I m0)) fun H5 e5 => ?_
      refine q _ H5 ((((But.ex (e1.trans e2)).trans .at).trans (But.ex (e3.trans e4))).trans (But.ex e5)) ⟨_, _, _, e5 _ _ (e4 _ _ (e3 _ _ hW2)), y0, y1, by omega, by omega⟩ (Int.emod_nonneg _ (by omega)) (Int.emod_lt_of_pos _ m0)
/-! ### _law_next -/
def sp_law_next (K : PySem.W.Frag) : Sp := fun vs H Q _ => ∃ (a b : Addr) (A : List (List Int)) (v : List Int), vs = [.ref a, .ref b] ∧ MatH K true H a A ∧ TabOk A ∧ SqL K H b (vi v) ∧ v.length = A.length ∧ RetL (vi (vmul v A)) H Q
theorem l_law_next {K : PySem.W.Frag} {H : Hp} {a b : Addr} {A : List (List Int)} {v : List Int} (h : MatH K true H a A) (ok : TabOk A) (hv : SqL K H b (vi v)) (hl : v.length = A.length) : SpL (sp_law_next K) [.ref a, .ref b] H (vi (vmul v A)) := fun H1 e Q q E => ⟨a, b, A, v, rfl, h.ex e, ok, ex_l e hv, hl, q⟩
theorem ok_law_next (T : Txt K mg) : FnG P w K mg base CX0 1 T.a_law_next T.d_law_next ["lines", "ways"] (sp_law_next K) := by
  refine okG T.F_law_next sc_law_next (fun vs H Q E h => ?_) (fun cdv A out s H vs Q E hr h => ?_)
  · obtain ⟨a, b, A, v, rfl, hM, ok, hv, hl, q⟩ := h
    rfl
  · obtain ⟨a, b, A, v, rfl, hM, ok, hv, hl, q⟩ := h
    refine ⟨_, (pss_cons (ps_set (i := 2) sc_law_next.nd rfl (.inr rfl) (pe_listRg rfl (by rfl) T.z_list (prg_1 (by rfl) T.z_range (pe_callB (call_lenK (K := K) rfl) (by rfl) T.z_len bt_len (pa_cons (pv 0) pa_nil)))))
    (pss_one (ps_ret (pe_lc (own := [("j", 3)]) (g := gName 3) rfl sc_law_next.nd (pi_listK (K := K) rfl (pv 2)) (blkOk_by (own := [("j", 3)]) (N := ["lines", "ways", "places", "j", "i"]) (sc := defScope s_law_next) (by decide +kernel)) (fun _ _ _ _ _ => (pg_name (i := 3) sc_law_next.nd rfl (Or.inr rfl))) (fun _ _ _ _ _ => pts_nil) (fun _ _ _ _ _ => (pe_callB (cr_sumK (K := K) rfl rfl) (by rfl) T.z_sum bt_sum (pa_cons (pe_lc (own := [("i", 4)]) (g := gName 4) rfl sc_law_next.nd (pi_listK (K := K) rfl (pv 2)) (blkOk_by (own := [("i", 4)]) (N := ["lines", "ways", "places", "j", "i"]) (sc := _) (by change blkC _ { kind := .function, names := [(".0", .local), ("j", .cell), ("sum", .globalImplicit), ("lines", .cell), ("places", .cell), ("ways", .cell)], isGenerator := false, isCoroutine := false } _ _ = true; decide +kernel)) (fun _ _ _ _ _ => (pg_name (i := 4) sc_law_next.nd rfl (Or.inl rfl))) (fun _ _ _ _ _ => pts_nil) (fun _ _ _ _ _ => (pe_op op_mul (pe_ix (ix_listK (K := K) rfl) (pv 1) (pv 4) (fun _ _ => rfl)) (pe_ix (ix_tupK (K := K) rfl) (pe_ix (ix_tupK (K := K) rfl) (pv 0) (pv 4) (fun _ _ => rfl)) (pv 3) (fun _ _ => rfl))))) pa_nil))))))), ?_⟩
    have l1 := ok.l1
    obtain ⟨rs, rl, hA, hr⟩ := hM.row
    replace hA : SqT K H a (rs.map V.ref) := hA
    refine q_asgL (xs := rgV 0 (A.length : Int)) (el_rg1 (ev_is (ev_lenT (ev_var rfl) hA) (by rw [List.length_map, rl])) (by omega) (by omega)) fun pp H1 f1 e1 g1 => ?_
    refine s_retL (el_is (el_lcL (xs := rgV 0 (A.length : Int)) (fun _ => true) (fun k => V.int ((tabL A.length fun j => v.getD j 0 * (A.getD j []).getD k 0).sum)) (ev_var rfl) (sq_of g1) (by rw [rgV_len]; omega) (fun _ => rfl) (fun _ _ _ _ _ => et_yes) fun k x H2 e2 hx _ => ?_) (by rw [rgV_len, given_yes_tab]; rfl)) fun p H2 f2 e2 g2 => q p H2 (fresh_back e1 f2) (e1.trans e2) g2
    obtain ⟨rfl, hk⟩ := rgV_at hx
    refine ev_sumN (el_is (el_lcL (xs := rgV 0 (A.length : Int)) (fun _ => true) (fun j => V.int (v.getD j 0 * (A.getD j []).getD k 0)) (ev_var rfl) (sq_of (e2 _ _ g1)) (by rw [rgV_len]; omega) (fun _ => rfl) (fun _ _ _ _ _ => et_yes) fun j x H3 e3 hx _ => ?_) (by rw [rgV_len, given_yes_tab]))
    obtain ⟨rfl, hj⟩ := rgV_at hx
    obtain ⟨r, hr1, hr2⟩ := hr j _ (get_getD (d := []) hj)
    replace hr2 : SqT K H r (vi (A.getD j [])) := hr2
    have hAj : A.getD j [] ∈ A := getD_mem hj
    have hvv := ok.val _ hAj ((A.getD j []).getD k 0) (getD_mem (by rw [ok.sq _ hAj]; exact hk))
    have e13 := (e1.trans e2).trans e3
    exact ev_op (ev_op (ev_var rfl) (ev_var rfl) (rv_ixL (ex_l e13 hv) (atI_nat (by rw [vi_at (by omega), List.getD_eq_getElem?_getD, List.getElem?_eq_getElem (by omega)]; rfl)))) (ev_op (ev_op (ev_var rfl) (ev_var rfl) (rv_ixT (ex_t e13 hA) (atI_nat hr1))) (ev_var rfl) (rv_ixT (ex_t e13 hr2) (atI_nat (by rw [List.getElem?_map, get_getD (d := (0 : Int)) (by rw [ok.sq _ hAj]; exact hk)]; rfl)))) (rv_I (.inr (by omega)))
/-! ### is_from_to -/
def sp_is_from_to (K : PySem.W.Frag) : Sp := fun vs H Q _ => ∃ (m lo hi : Int), vs = [.int m, .int lo, .int hi] ∧ RetV (.bl (decide (lo ≤ m) && decide (m ≤ hi))) H Q
theorem v_is_from_to {K : PySem.W.Frag} {H : Hp} {m lo hi : Int} : SpV (sp_is_from_to K) [.int m, .int lo, .int hi] H (.bl (decide (lo ≤ m) && decide (m ≤ hi))) := fun H1 e Q q E => ⟨m, lo, hi, rfl, q⟩
theorem ok_is_from_to (T : Txt K mg) : FnG P w K mg base CX0 2 T.a_is_from_to T.d_is_from_to ["value", "least", "most"] (sp_is_from_to K) := by
  refine okG T.F_is_from_to sc_is_from_to (fun vs H Q E h => ?_) (fun cdv A out s H vs Q E hr h => ?_)
  · obtain ⟨m, lo, hi, rfl, q⟩ := h
    rfl
  · obtain ⟨m, lo, hi, rfl, q⟩ := h
    refine ⟨_, (pss_one (ps_ret (pe_and (callG (ok_is_whole T) (hr.mono (by decide)) (by rfl) T.g_is_whole T.F_is_whole.kp (b_is_whole T) .nil pass0 (pa_cons (pv 0) pa_nil)) (pe_one (pe_chain op_le op_le (pv 1) (pv 0) (pv 2)))))), ?_⟩
    exact s_ret (ev_is (ev_andV (a := true) (ev_call (ea_cons (ev_var rfl) ea_nil) (v_is_whole m)) fun _ => ev_chain (ev_var rfl) (ev_var rfl) (rv_b rfl) (fun _ => ev_var rfl) fun _ => rv_b rfl) (by rw [Bool.true_and])) q
/-! ### row_of_walks -/
def sp_row_of_walks (K : PySem.W.Frag) : Sp := fun vs H Q _ => ∃ (a : Addr) (A : List (List Int)) (n : Nat), vs = [.ref a, .int (n : Int)] ∧ MatH K true H a A ∧ TabOk A ∧ n ≤ 1000 ∧ RetL (vi (wrow A n)) H Q
theorem l_row_of_walks {K : PySem.W.Frag} {H : Hp} {a : Addr} {A : List (List Int)} {n : Nat} (h : MatH K true H a A) (ok : TabOk A) (hn : n ≤ 1000) : SpL (sp_row_of_walks K) [.ref a, .int (n : Int)] H (vi (wrow A n)) := fun H1 e Q q E => ⟨a, A, n, rfl, h.ex e, ok, hn, q⟩
theorem ok_row_of_walks (T : Txt K mg) : FnG P w K mg base CX0 2 T.a_row_of_walks T.d_row_of_walks ["table", "many"] (sp_row_of_walks K) := by
  refine okG T.F_row_of_walks sc_row_of_walks (fun vs H Q E h => ?_) (fun cdv A out s H vs Q E hr h => ?_)
  · obtain ⟨a, A, n, rfl, hM, ok, hn, q⟩ := h
    rfl
  · obtain ⟨a, A, n, rfl, hM, ok, hn, q⟩ := h
    refine ⟨_, (pss_cons (ps_set (i := 2) sc_row_of_walks.nd rfl (.inr rfl) (pv 0))
    (pss_cons (ps_set (i := 3) sc_row_of_walks.nd rfl (.inl rfl) (pe_lst pa_nil))
    (pss_cons (ps_for PassesOwn.never rfl (pi_range1 (by rfl) T.z_range (pa_cons (pv 1) pa_nil)) (pg_name (i := 4) sc_row_of_walks.nd rfl (.inl rfl))
      (pss_cons (ps_expr (pe_bm PySem.F.plainAttrs_list PySem.F.slot_list_append PySem.F.type_list_append mt_append (pv 3) (pa_cons (pe_callB (cr_sumK (K := K) rfl rfl) (by rfl) T.z_sum bt_sum (pa_cons (pe_lc (own := [("place", 5)]) (g := gName 5) rfl sc_row_of_walks.nd (pi_range1 (by rfl) T.z_range (pa_cons (pe_callB (call_lenK (K := K) rfl) (by rfl) T.z_len bt_len (pa_cons (pv 0) pa_nil)) pa_nil)) (blkOk_by (own := [("place", 5)]) (N := ["table", "many", "walks", "row", "_", "place"]) (sc := defScope s_row_of_walks) (by decide +kernel)) (fun _ _ _ _ _ => (pg_name (i := 5) sc_row_of_walks.nd rfl (Or.inl rfl))) (fun _ _ _ _ _ => pts_nil) (fun _ _ _ _ _ => (pe_ix (ix_anyK (K := K) rfl) (pe_ix (ix_anyK (K := K) rfl) (pv 2) (pv 5) (fun _ _ => rfl)) (pv 5) (fun _ _ => rfl)))) pa_nil)) pa_nil)))
      (pss_one (ps_set (i := 2) sc_row_of_walks.nd rfl (.inr rfl) (callG (ok_with_a_step T) (hr.mono (by decide)) (by rfl) T.g_with_a_step T.F_with_a_step.kp (b_with_a_step T) .nil pass0 (pa_cons (pv 2) (pa_cons (pv 0) pa_nil)))))))
    (pss_one (ps_ret (pv 3)))))), ?_⟩
    have l0 := ok.l0
    have l1 := ok.l1
    refine q_asg (ev_var rfl) fun H1 e1 => ?_
    refine q_asgL (xs := []) (el_lst ea_nil (by show 0 ≤ 100000; decide)) fun pr H2 f2 e2 g2 => ?_
    have fr := fresh_back e1 f2
    refine q_forR1 (n := (n : Int)) (ea_cons (ev_var rfl) ea_nil) (by omega) (fun i σ' H' => ∃ (w : Addr) (k : Bool) (y1 y2 : Option V), σ' = [some (.ref a), some (.int (n : Int)), some (.ref w), some (.ref pr), y1, y2] ∧ Ex H H' ∧ MatH K k (hid pr H') w (wlk A i) ∧ H' pr = some (.lst (vi (wrow A i)))) ?_ ?_ ?_
    · intro H3 e3
      exact ⟨a, true, _, _, rfl, (e1.trans e2).trans e3, hM.ex (ex_to_hid ((e1.trans e2).trans e3) fr), e3 _ _ g2⟩
    · rintro i σ' H' hi ⟨w, k, y1, y2, rfl, e, hW, gp⟩
      have hi' : i < n := by omega
      have hW' : MatH K k H' w (wlk A i) := hW.ex (ex_hid (But.refl pr H'))
      obtain ⟨rs, hl, hA, hr⟩ := hW'.row
      rw [wlk_length] at hl
      obtain ⟨ts, tl, tA, _⟩ := (hM.ex e).row
      have hlen : ((ts.map V.ref).length : Int) = (A.length : Int) := by rw [List.length_map, tl]
      refine q_app gp (ev_var rfl) (v := .int (trc A.length (wlk A i))) (ev_sumN (el_is (el_lcR1 (n := (A.length : Int)) (fun _ => true) (fun j => V.int (((wlk A i).getD j []).getD j 0)) (ea_cons (ev_is (ev_lenT (ev_var rfl) (show SqT K H' a _ from tA)) (by rw [hlen])) ea_nil) (by omega) (fun _ => rfl) (fun _ _ _ _ => et_yes) fun j H3 e3 hj _ => ?_) (by rw [Int.toNat_natCast, given_yes_tab]))) (by rw [List.length_map]; unfold wrow; rw [tab_length]; omega) fun H3 e3 => ?_
      · have hj' : j < A.length := by omega
        obtain ⟨r, hr1, hr2⟩ := hr j _ (get_getD (d := []) (by rw [wlk_length]; exact hj'))
        have hrl : ((wlk A i).getD j []).length = A.length := wlk_sq ok.sq i _ (getD_mem (by rw [wlk_length]; exact hj'))
        refine ev_op (ev_op (ev_var rfl) (ev_var rfl) (rv_ixA (ex_x e3 hA) (atI_nat hr1))) (ev_var rfl) (rv_ixA (ex_x e3 hr2) (atI_nat ?_))
        rw [List.getElem?_map, get_getD (d := (0 : Int)) (by rw [hrl]; exact hj')]
        rfl
      have eG : Ex H (upd H3 pr (.lst (vi (wrow A i) ++ [.int (trc A.length (wlk A i))]))) := (e.trans e3).mut fr
      have gG : (upd H3 pr (.lst (vi (wrow A i) ++ [.int (trc A.length (wlk A i))]))) pr = some (.lst (vi (wrow A (i + 1)))) := by
        rw [upd_same]
        have er : wrow A (i + 1) = wrow A i ++ [trc A.length (wlk A i)] := by
          unfold wrow tabL
          rw [List.range_succ, List.map_append]
          rfl
        rw [er]
        unfold vi
        rw [List.map_append]
        rfl
      have hWG : MatH K k (hid pr (upd H3 pr (.lst (vi (wrow A i) ++ [.int (trc A.length (wlk A i))])))) w (wlk A i) := by
        rw [hid_upd]
        exact hW.ex (hid_ex e3)
      generalize upd H3 pr (.lst (vi (wrow A i) ++ [.int (trc A.length (wlk A i))])) = G at *
      refine s_asgMt (m_with_a_step (ea_cons (ev_var rfl) (ea_cons (ev_var rfl) ea_nil)) (hWG.ex (ex_hid (But.refl pr G))) (hM.ex eG) ok (by rw [wlk_length]; exact l1) (wlk_sq ok.sq i)) fun w2 H4 f4 e4 m4 => ?_
      exact ⟨w2, false, _, _, rfl, eG.trans e4, m4.ex (newH_hid gG), e4 _ _ gG⟩
    · rintro σ' H' ⟨w, k, y1, y2, rfl, e, hW, gp⟩
      rw [Int.toNat_natCast] at gp
      exact s_ret (ev_var rfl) fun H3 e3 => q pr H3 fr (e.trans e3) (e3 _ _ gp)
/-! ### _law_lines -/
def sp_law_lines (K : PySem.W.Frag) : Sp := fun vs H Q _ => ∃ (a : Addr) (n places : Nat) (most : Int), vs = [.ref a, .int (places : Int), .int most] ∧ Well H a n ∧ n + 100 ≤ 2 ^ 50 ∧ 1 ≤ places ∧ places ≤ 6 ∧ 0 ≤ most ∧ most ≤ 1000000 ∧
  ∀ p A H2, H p = none → But a H H2 → Well H2 a (n + 100) → MatH K true (hid a H2) p A → TabOk A → A.length = places → (∀ r ∈ A, ∀ x ∈ r, x ≤ most) → Q (.ref p) H2
theorem wm_law_lines {K : PySem.W.Frag} {E : XK} {σ : L2.St} {H : Hp} {a : Addr} {d : Nat} {t : TA} {P : Nat → Int → Prop} (h : EvWA a d t σ H (fun vs => ∃ (places : Nat) (most : Int), vs = [.ref a, .int (places : Int), .int most] ∧ 1 ≤ places ∧ places ≤ 6 ∧ 0 ≤ most ∧ most ≤ 1000000 ∧ P places most)) :
    EvWM K a (d + 100) (tCall (sp_law_lines K) [] E t) σ H (fun A => TabOk A ∧ ∃ places most, P places most ∧ A.length = places ∧ ∀ r ∈ A, ∀ x ∈ r, x ≤ most) := fun n H1 b w l Q q =>
  h n H1 b w (by omega) _ fun vs H2 b2 w2 ⟨places, most, ev, h1, h2, h3, h4, hp⟩ => by
    subst ev
    refine ⟨a, n + d, places, most, rfl, w2, by omega, h1, h2, h3, h4, fun p A H3 fp b3 w3 m ok hl hm => ?_⟩
    exact q p A H3 (But.free b2 (w2.ne fp) fp) (b2.trans b3) (w3.mono (by omega)) m ⟨ok, places, most, hp, hl, hm⟩
theorem ok_law_lines (T : Txt K mg) : FnG P w K mg base CX0 2 T.a_law_lines T.d_law_lines ["well", "places", "most"] (sp_law_lines K) := by
  refine okG T.F_law_lines sc_law_lines (fun vs H Q E h => ?_) (fun cdv A out s H vs Q E hr h => ?_)
  · obtain ⟨a, n, places, most, rfl, hw, hn, p0, p1, m0, m1, q⟩ := h
    rfl
  · obtain ⟨a, n, places, most, rfl, hw, hn, p0, p1, m0, m1, q⟩ := h
    refine ⟨_, (pss_cons (ps_set (i := 3) sc_law_lines.nd rfl (.inl rfl) (pe_lst pa_nil))
    (pss_cons (ps_for PassesOwn.never rfl (pi_range1 (by rfl) T.z_range (pa_cons (pv 1) pa_nil)) (pg_name (i := 4) sc_law_lines.nd rfl (.inl rfl))
      (pss_one (ps_expr (pe_bm PySem.F.plainAttrs_list PySem.F.slot_list_append PySem.F.type_list_append mt_append (pv 3) (pa_cons (pe_callTy (call_tupleK (K := K) rfl) (by rfl) T.z_tuple bt_tuple (pa_cons (pe_lc (own := [("j", 5)]) (g := gName 5) rfl sc_law_lines.nd (pi_range1 (by rfl) T.z_range (pa_cons (pv 1) pa_nil)) (blkOk_by (own := [("j", 5)]) (N := ["well", "places", "most", "lines", "i", "j"]) (sc := defScope s_law_lines) (by decide +kernel)) (fun _ _ _ _ _ => (pg_name (i := 5) sc_law_lines.nd rfl (Or.inl rfl))) (fun _ _ _ _ _ => pts_nil) (fun _ _ _ _ _ => (pe_ix (ix_listK (K := K) rfl) (pe_lst (pa_cons pe_int (pa_cons (callG (ok_law_draw T) (hr.mono (by decide)) (by rfl) T.g_law_draw T.F_law_draw.kp (b_law_draw T) .nil pass0 (pa_cons (pv 0) (pa_cons (pe_op op_add (pv 2) pe_int) pa_nil))) pa_nil))) (callG (ok_law_draw T) (hr.mono (by decide)) (by rfl) T.g_law_draw T.F_law_draw.kp (b_law_draw T) .nil pass0 (pa_cons (pv 0) (pa_cons pe_int pa_nil))) (fun _ _ => rfl)))) pa_nil)) pa_nil)))))
    (pss_one (ps_ret (pe_callTy (call_tupleK (K := K) rfl) (by rfl) T.z_tuple bt_tuple (pa_cons (pv 3) pa_nil)))))), ?_⟩
    refine q_asgL (xs := []) (el_lst ea_nil (by show 0 ≤ 100000; decide)) fun pl H1 f1 e1 g1 => ?_
    have n1 : pl ≠ a := hw.ne f1
    refine q_forR1 (n := (places : Int)) (ea_cons (ev_var rfl) ea_nil) (by omega) (fun i σ' H' => ∃ (y4 y5 : Option V) (rs : List Addr) (A : List (List Int)), σ' = [some (.ref a), some (.int (places : Int)), some (.int most), some (.ref pl), y4, y5] ∧ But a H H' ∧ Well H' a (n + 13 * i) ∧ H' pl = some (.lst (rs.map V.ref)) ∧
      Paired (fun r xs => H' r = some (.tup (vi xs))) rs A ∧ A.length = i ∧ ∀ r ∈ A, r.length = places ∧ ∀ x ∈ r, 0 ≤ x ∧ x ≤ most) ?_ ?_ ?_
    · intro H2 e2
      exact ⟨_, _, [], [], rfl, But.ex (e1.trans e2), hw.ex (e1.trans e2), e2 _ _ g1, .nil, rfl, fun _ h => nomatch h⟩
    · rintro i σ' H' hi ⟨y4, y5, rs, A, rfl, b, w, g, hp, hl, hA⟩
      have hi' : i < places := by omega
      have lr := hp.length
      refine s_appWU (PL := fun ys => ∃ xs : List Int, ys = vi xs ∧ xs.length = places ∧ ∀ x ∈ xs, 0 ≤ x ∧ x ≤ most) g n1 (ev_var rfl) (ewu_tupOf (ewl_mono (ewl_lcR1 (N := 6) (P := fun r => r = (places : Int)) (PE := fun v => ∃ z, v = .int z ∧ 0 ≤ z ∧ z ≤ most) (ew_v rfl rfl) (fun r hr => by omega) (by decide) (fun _ => rfl) fun j H2 b2 => ew_ixW (ewl_lst (ewa_cons (ew_c (P := fun r => r = 0) rfl) (ewa_cons (ew_drawC (m := most + 1) rfl (ev_op (ev_var rfl) ev_c rv_I0) (by omega) (lt8000 (by omega))) ewa_nil)) ?_) (ew_drawC (m := 2) rfl ev_c (by decide) (lt8000 (by decide))) ?_) ?_)) w (by omega) (by rw [List.length_map]; omega) ?_
      · rintro xs ⟨_, _, rfl, _, _, _, rfl, _, rfl⟩
        show 2 ≤ 100000
        decide
      · rintro _ _ ⟨_, _, rfl, ⟨r0, rfl, e0⟩, _, _, rfl, ⟨r1, rfl, c0, c1⟩, rfl⟩ ⟨j, rfl, j0, j1⟩
        have : j = 0 ∨ j = 1 := by omega
        rcases this with e | e
        · subst e
          exact ⟨_, _, rfl, rfl, r0, rfl, by omega, by omega⟩
        · subst e
          exact ⟨_, _, rfl, rfl, r1, rfl, by omega, by omega⟩
      · rintro xs ⟨r, hr, el, hx⟩
        obtain ⟨cs, rfl, hc⟩ := vi_of hx
        rw [List.length_map] at el
        exact ⟨cs, rfl, by omega, hc⟩
      · rintro t _ H3 b3 w3 gt ⟨xs, rfl, lx, hx⟩
        have nt : t ≠ pl := by
          intro e
          rw [e, b3 _ _ n1 g] at gt
          cases gt
        have eu : ∀ o, But a H (upd H3 pl o) := fun o => (b.trans b3).own f1
        refine ⟨_, _, rs ++ [t], A ++ [xs], rfl, eu _, (well_upd (o := .lst (rs.map V.ref ++ [.ref t])) w3 n1).mono (by omega), by rw [upd_same, List.map_append]; rfl, paired_snoc (F := fun r xs => upd H3 pl (.lst (rs.map V.ref ++ [.ref t])) r = some (.tup (vi xs))) (by rw [upd_ne nt]; exact gt) (paired_mono hp fun r hr ys h => ?_), by rw [List.length_append, hl]; rfl, fun r hr => ?_⟩
        · have nr : r ≠ pl := by
            intro e
            rw [e, g] at h
            cases h
          rw [upd_ne nr]
          exact b3 _ _ (well_tup w h) h
        · rcases List.mem_append.mp hr with hr | hr
          · exact hA r hr
          · obtain rfl := List.mem_singleton.mp hr
            exact ⟨lx, hx⟩
    · rintro σ' H' ⟨y4, y5, rs, A, rfl, b, w, g, hp, hl, hA⟩
      rw [Int.toNat_natCast] at hl
      refine s_retU (eu_tupOf (ev_var rfl) (sq_of g)) fun p H3 fp e3 g3 => ?_
      have w3 := w.ex e3
      refine q p A H3 (But.free b (w.ne fp) fp) (b.trans (But.ex e3)) (w3.mono (by omega)) ⟨rs, ?_, ?_⟩ ⟨by omega, by omega, fun r hr => by rw [(hA r hr).1, hl], fun r hr x hx => by have := (hA r hr).2 x hx; omega⟩ hl (fun r hr x hx => ((hA r hr).2 x hx).2)
      · exact st_of (by rw [hid_ne (well_tup w3 g3)]; exact g3)
      · exact paired_mono hp fun r hr xs h => st_of (by rw [hid_ne (well_tup w3 (e3 _ _ h))]; exact e3 _ _ h)
/-! ### _law_due -/
def sp_law_due (K : PySem.W.Frag) : Sp := fun vs H Q _ => ∃ (a : Addr) (A : List (List Int)) (n : Nat), vs = [.ref a, .int (n : Int)] ∧ MatH K true H a A ∧ TabOk A ∧ n ≤ 300 ∧ RetL (vi (wrow A n)) H Q
theorem l_law_due {K : PySem.W.Frag} {H : Hp} {a : Addr} {A : List (List Int)} {n : Nat} (h : MatH K true H a A) (ok : TabOk A) (hn : n ≤ 300) : SpL (sp_law_due K) [.ref a, .int (n : Int)] H (vi (wrow A n)) := fun H1 e Q q E => ⟨a, A, n, rfl, h.ex e, ok, hn, q⟩
theorem ok_law_due (T : Txt K mg) : FnG P w K mg base CX0 2 T.a_law_due T.d_law_due ["lines", "most"] (sp_law_due K) := by
  refine okG T.F_law_due sc_law_due (fun vs H Q E h => ?_) (fun cdv A out s H vs Q E hr h => ?_)
  · obtain ⟨a, A, n, rfl, hM, ok, hn, q⟩ := h
    rfl
  · obtain ⟨a, A, n, rfl, hM, ok, hn, q⟩ := h
    refine ⟨_, (pss_cons (ps_set (i := 2) sc_law_due.nd rfl (.inl rfl) (pe_op op_rep (pe_lst (pa_cons pe_int pa_nil)) (pv 1)))
    (pss_cons (ps_for PassesOwn.never rfl (pi_range1 (by rfl) T.z_range (pa_cons (pe_callB (call_lenK (K := K) rfl) (by rfl) T.z_len bt_len (pa_cons (pv 0) pa_nil)) pa_nil)) (pg_name (i := 3) sc_law_due.nd rfl (.inr rfl))
      (pss_cons (ps_setLc (i := 4) (own := [("place", 6)]) (g := gName 6) rfl sc_law_due.nd rfl rfl (sw_true rfl rfl rfl (by decide +kernel)) (pi_range1 (by rfl) T.z_range (pa_cons (pe_callB (call_lenK (K := K) rfl) (by rfl) T.z_len bt_len (pa_cons (pv 0) pa_nil)) pa_nil)) (blkOk_by (own := [("place", 6)]) (N := ["lines", "most", "found", "start", "ways", "turn", "place"]) (sc := defScope s_law_due) (by decide +kernel)) (fun _ _ _ _ _ => (pg_name (i := 6) sc_law_due.nd rfl (Or.inl rfl))) (fun _ _ _ _ _ => pts_nil) (fun _ _ _ _ _ => (pe_callTy call_int1 (by rfl) T.z_int bt_int (pa_cons (pe_cmpR op_eq (pv 6) (pv 3) (nomark _)) pa_nil))))
      (pss_one (ps_for PassesOwn.never rfl (pi_range1 (by rfl) T.z_range (pa_cons (pv 1) pa_nil)) (pg_name (i := 5) sc_law_due.nd rfl (.inl rfl))
        (pss_cons (ps_set (i := 4) sc_law_due.nd rfl (.inl rfl) (callG (ok_law_next T) (hr.mono (by decide)) (by rfl) T.g_law_next T.F_law_next.kp (b_law_next T) .nil pass0 (pa_cons (pv 0) (pa_cons (pv 4) pa_nil))))
        (pss_one (ps_asg (pe_op op_add (pe_ix (ix_listK (K := K) rfl) (pv 2) (pv 5) (fun _ _ => rfl)) (pe_ix (ix_listK (K := K) rfl) (pv 4) (pv 3) (fun _ _ => rfl))) (pg_sub (pv 2) (pv 5) set_list))))))))
    (pss_one (ps_ret (pv 2))))), ?_⟩
    have l0 := ok.l0
    have l1 := ok.l1
    obtain ⟨rs, rl, hA, hr⟩ := hM.row
    replace hA : SqT K H a (rs.map V.ref) := hA
    have hlen : ((rs.map V.ref).length : Int) = (A.length : Int) := by rw [List.length_map, rl]
    refine q_asgL (xs := vi (tabL n (duek A 0))) (el_is (el_rep (n := (n : Int)) (el_lst (ea_cons ev_c ea_nil) (by show 1 ≤ 100000; decide)) (fun H1 e2 => ev_var rfl) (by omega) (by show 1 * _ ≤ _; omega) (by omega)) (by rw [Int.toNat_natCast, ← due0]; exact flat_rep _ _)) fun pf H1 f1 e1 g1 => ?_
    refine q_forR1 (n := (A.length : Int)) (ea_cons (ev_is (ev_lenT (ev_var rfl) (ex_t e1 hA)) (by rw [hlen])) ea_nil) (by omega) (fun s σ' H' => ∃ (y3 y4 y5 y6 : Option V), σ' = [some (.ref a), some (.int (n : Int)), some (.ref pf), y3, y4, y5, y6] ∧ Ex H H' ∧ H' pf = some (.lst (vi (tabL n (duek A s))))) ?_ ?_ ?_
    · intro H2 e2
      exact ⟨_, _, _, _, rfl, e1.trans e2, e2 _ _ g1⟩
    · rintro s σ' H' hs ⟨y3, y4, y5, y6, rfl, e, g⟩
      have hs' : s < A.length := by omega
      refine q_asgL (xs := vi (unit A.length s)) (el_is (el_lcR1 (n := (A.length : Int)) (fun _ => true) (fun j => V.int (if j = s then 1 else 0)) (ea_cons (ev_is (ev_lenT (ev_var rfl) (ex_t e hA)) (by rw [hlen])) ea_nil) (by omega) (fun _ => rfl) (fun _ _ _ _ => et_yes) fun j H3 e3 hj _ => ?_) (by rw [Int.toNat_natCast, given_yes_tab]; rfl)) fun pw H2 f2 e2 g2 => ?_
      · refine ev_is (ev_intB (b := decide (V.int (j : Int) = V.int (s : Int))) (ev_op (ev_var rfl) (ev_var rfl) (rv_eq rfl))) ?_
        by_cases c : j = s
        · rw [decide_eq_true (by rw [c]), if_pos c]
          rfl
        · rw [decide_eq_false (fun z => c (by have := V.int.inj z; omega)), if_neg c]
          rfl
      have nw : pw ≠ pf := (ne_of_none g f2).symm
      refine s_forR1 (n := (n : Int)) (ea_cons (ev_var rfl) ea_nil) (by omega) (fun t σ' H' => ∃ (w : Addr) (y5 y6 : Option V), σ' = [some (.ref a), some (.int (n : Int)), some (.ref pf), some (.int (s : Int)), some (.ref w), y5, y6] ∧ Ex H H' ∧ w ≠ pf ∧ H' w = some (.lst (vi (vst A s t))) ∧ H' pf = some (.lst (vi (tabL n fun i => if i < t then duek A (s + 1) i else duek A s i)))) ?_ ?_ ?_
      · intro H3 e3
        exact ⟨pw, _, _, rfl, (e.trans e2).trans e3, nw, e3 _ _ g2, by rw [e3 _ _ (e2 _ _ g)]; simp⟩
      · rintro t σ' H3 ht ⟨w, y5, y6, rfl, e3, nw, gw, gf⟩
        have ht' : t < n := by omega
        refine q_asgL (el_call (ea_cons (ev_var rfl) (ea_cons (ev_var rfl) ea_nil)) (l_law_next (hM.ex e3) ok (sq_of gw) (vst_length A s t))) fun w2 H4 f4 e4 g4 => ?_
        have nw2 : w2 ≠ pf := (ne_of_none gf f4).symm
        refine s_setL (j := t) (v := .int (duek A (s + 1) t)) (e4 _ _ gf) (ev_is (ev_op (ev_op (ev_var rfl) (ev_var rfl) (rv_ixL (v := .int (duek A s t)) (sq_of (e4 _ _ gf)) (atI_nat (by rw [tab_at ht', if_neg (Nat.lt_irrefl _)])))) (ev_op (ev_var rfl) (ev_var rfl) (rv_ixL (v := .int ((vst A s (t + 1)).getD s 0)) (sq_of g4) (atI_nat (by rw [List.getElem?_map]; rw [get_getD (d := (0 : Int)) (by rw [vmul_length]; exact hs')]; rfl)))) rv_I0) (by rw [duek_succ])) (ev_var rfl) (ev_var rfl) (by rw [List.length_map, tab_length]; exact ht') fun H5 e5 => ?_
        refine ⟨w2, _, _, rfl, ((e3.trans e4).trans e5).mut f1, nw2, by rw [upd_ne nw2]; exact e5 _ _ g4, ?_⟩
        rw [upd_same, vi_set, tab_set ht']
        refine congrArg (fun z => some (HO.lst (vi z))) (tab_congr fun i hi => ?_)
        by_cases c : i = t
        · rw [if_pos c, c, if_pos (Nat.lt_succ_self t)]
        · rw [if_neg c]
          by_cases d : i < t
          · rw [if_pos d, if_pos (by omega)]
          · rw [if_neg d, if_neg (by omega)]
      · rintro σ' H3 ⟨w, y5, y6, rfl, e3, nw, gw, gf⟩
        rw [Int.toNat_natCast] at gf
        exact ⟨_, _, _, _, rfl, e3, by rw [gf]; exact congrArg (fun z => some (HO.lst (vi z))) (tab_congr fun i hi => if_pos hi)⟩
    · rintro σ' H' ⟨y3, y4, y5, y6, rfl, e, g⟩
      rw [Int.toNat_natCast, due_wrow ok.sq] at g
      exact s_ret (ev_var rfl) fun H2 e2 => q pf H2 f1 (e.trans e2) (e2 _ _ g)
/-! ### check_many -/
def sp_check_many (K : PySem.W.Frag) : Sp := fun vs H Q _ => ∃ m : Int, vs = [.int m] ∧ 1 ≤ m ∧ m ≤ 300 ∧ RetV .non H Q
theorem v_check_many {K : PySem.W.Frag} {H : Hp} {m : Int} (h1 : 1 ≤ m) (h2 : m ≤ 300) : SpV (sp_check_many K) [.int m] H .non := fun H1 e Q q E => ⟨m, rfl, h1, h2, q⟩
theorem ok_check_many (T : Txt K mg) : FnG P w K mg base CX0 3 T.a_check_many T.d_check_many ["many"] (sp_check_many K) := by
  refine okG T.F_check_many sc_check_many (fun vs H Q E h => ?_) (fun cdv A out s H vs Q E hr h => ?_)
  · obtain ⟨m, rfl, h1, h2, q⟩ := h
    rfl
  · obtain ⟨m, rfl, h1, h2, q⟩ := h
    refine ⟨_, (pss_one (ps_if (pt_not (pt_val (callG (ok_is_from_to T) (hr.mono (by decide)) (by rfl) T.g_is_from_to T.F_is_from_to.kp (b_is_from_to T) .nil pass0 (pa_cons (pv 0) (pa_cons pe_int (pa_cons (pe_glob (v := .int 300) rfl T.c_MOST_NUMBERS ⟨_, rfl⟩) pa_nil))))))
      (pss_one ps_never)
      pss_nil)), ?_⟩
    exact s_when (b := false) (et_not (a := true) (et_test (ev_is (ev_call (ea_cons (ev_var rfl) (ea_cons ev_c (ea_cons ev_c ea_nil))) v_is_from_to) (by rw [decide_eq_true h1, decide_eq_true h2]; rfl)))) (fun h => nomatch h) fun _ => q
/-! ### check_table -/
def sp_check_table (K : PySem.W.Frag) : Sp := fun vs H Q _ => ∃ (a : Addr) (A : List (List Int)), vs = [.ref a] ∧ MatH K true H a A ∧ TabOk A ∧ RetV .non H Q
theorem v_check_table {K : PySem.W.Frag} {H : Hp} {a : Addr} {A : List (List Int)} (h : MatH K true H a A) (ok : TabOk A) : SpV (sp_check_table K) [.ref a] H .non := fun H1 e Q q E => ⟨a, A, rfl, h.ex e, ok, q⟩
theorem ok_check_table (T : Txt K mg) : FnG P w K mg base CX0 3 T.a_check_table T.d_check_table ["table"] (sp_check_table K) := by
  refine okG T.F_check_table sc_check_table (fun vs H Q E h => ?_) (fun cdv A out s H vs Q E hr h => ?_)
  · obtain ⟨a, A, rfl, hM, ok, q⟩ := h
    rfl
  · obtain ⟨a, A, rfl, hM, ok, q⟩ := h
    refine ⟨_, (pss_cons (ps_if (PW.pt (pw_or (pt_not (pt_val (pe_callB (call_isiK' (K := K) rfl) (by rfl) T.z_isinstance bt_isinstance (pa_cons (pv 0) (pa_cons (pe_bltn (v := .ty "tuple") (by rfl) T.z_tuple bt_tuple rfl) pa_nil))))) (pw_or1 (pt_not (pt_chain op_le op_le pe_int (pe_callB (call_lenK (K := K) rfl) (by rfl) T.z_len bt_len (pa_cons (pv 0) pa_nil)) (pe_glob (v := .int 6) rfl T.c_MOST_PLACES ⟨_, rfl⟩))))))
      (pss_one ps_never)
      pss_nil)
    (pss_one (ps_for PassesOwn.never rfl (pi_tupK (K := K) rfl (pv 0)) (pg_name (i := 1) sc_check_table.nd rfl (.inl rfl))
      (pss_cons (ps_if (PW.pt (pw_or (pt_not (pt_val (pe_callB (call_isiK' (K := K) rfl) (by rfl) T.z_isinstance bt_isinstance (pa_cons (pv 1) (pa_cons (pe_bltn (v := .ty "tuple") (by rfl) T.z_tuple bt_tuple rfl) pa_nil))))) (pw_or1 (pt_cmpR op_ne (pe_callB (call_lenK (K := K) rfl) (by rfl) T.z_len bt_len (pa_cons (pv 1) pa_nil)) (pe_callB (call_lenK (K := K) rfl) (by rfl) T.z_len bt_len (pa_cons (pv 0) pa_nil)) (nomark _)))))
        (pss_one ps_never)
        pss_nil)
      (pss_one (ps_if (pt_not (pt_val (pe_callB (cr_allK (K := K) rfl rfl) (by rfl) T.z_all bt_all (pa_cons (pe_lc (own := [("number", 2)]) (g := gName 2) rfl sc_check_table.nd (pi_tupK (K := K) rfl (pv 1)) (blkOk_by (own := [("number", 2)]) (N := ["table", "steps", "number"]) (sc := defScope s_check_table) (by decide +kernel)) (fun _ _ _ _ _ => (pg_name (i := 2) sc_check_table.nd rfl (Or.inl rfl))) (fun _ _ _ _ _ => pts_nil) (fun _ _ _ _ _ => (callG (ok_is_from_to T) (hr.mono (by decide)) (by rfl) T.g_is_from_to T.F_is_from_to.kp (b_is_from_to T) .nil pass0 (pa_cons (pv 2) (pa_cons pe_int (pa_cons (pe_glob (v := .int 1000000) rfl T.c_MOST_STEPS ⟨_, rfl⟩) pa_nil)))))) pa_nil))))
        (pss_one ps_never)
        pss_nil)))))), ?_⟩
    obtain ⟨rs, hl, hA, hr⟩ := hM.row
    replace hA : SqT K H a (rs.map V.ref) := hA
    have l0 := ok.l0
    have l1 := ok.l1
    have hlen : ((rs.map V.ref).length : Int) = (A.length : Int) := by rw [List.length_map, hl]
    refine q_when (b := false) (et_or (a := false) (b := false) (et_not (a := true) (et_B (ev_isi (ev_var rfl) (fun H1 e => ty_seqt (ex_t e hA)) kb_tuple_tuple))) fun _ => et_not (a := true) (et_test (ev_chain (a := true) (b := true) ev_c (ev_lenT (ev_var rfl) hA) (rv_b (decide_eq_true (by rw [hlen]; omega))) (fun _ => ev_c) fun _ => rv_b (decide_eq_true (by rw [hlen]; omega))))) (fun h => nomatch h) (fun _ H1 e1 => ?_)
    refine s_forT (ev_var rfl) (ex_t e1 hA) (fun i σ' H' => ∃ y1 y2, σ' = [some (.ref a), y1, y2] ∧ Ex H H') (fun H2 e2 => ⟨none, none, rfl, e1.trans e2⟩) ?_ ?_ ?_
    · rintro i σ' H' _ ⟨_, _, _, e⟩
      exact ex_t e hA
    · rintro i x σ' H' hx ⟨y1, y2, rfl, e⟩
      have hi : i < A.length := by
        have := (List.getElem?_eq_some_iff.mp hx).1
        rw [List.length_map] at this
        omega
      obtain ⟨r, hr1, hr2⟩ := hr i _ (List.getElem?_eq_getElem hi)
      rw [hx] at hr1
      cases hr1
      have hmem : A[i] ∈ A := List.getElem_mem hi
      have hR : SqT K H' r (vi A[i]) := ex_t e hr2
      refine q_when (b := false) (et_or (a := false) (b := false) (et_not (a := true) (et_B (ev_isi (ev_var rfl) (fun H1 e => ty_seqt (ex_t e hR)) kb_tuple_tuple))) fun _ => et_is (et_test (ev_op (ev_lenT (ev_var rfl) hR) (ev_lenT (ev_var rfl) (ex_t e hA)) (rv_ne rfl))) ?_) (fun h => nomatch h) (fun _ H2 e2 => ?_)
      · have : V.int ((vi A[i]).length : Int) = V.int ((rs.map V.ref).length : Int) := by rw [hlen, List.length_map, ok.sq _ hmem]
        rw [decide_eq_true this]
        rfl
      · refine s_when (b := false) (et_not (a := true) (et_B (ev_is (ev_allN (bs := List.replicate A.length true) (el_is (el_lcT (xs := vi A[i]) (fun _ => true) (fun _ => .bl true) (ev_var rfl) (ex_t e2 hR) (by rw [List.length_map, ok.sq _ hmem]; omega) (fun _ => rfl) (fun i x H3 e3 hx => et_yes) (fun j x H3 e3 hx _ => ?_)) ?_)) ?_))) (fun h => nomatch h) (fun _ H3 e3 => ?_)
        · obtain ⟨n, rfl, hn, _⟩ := vi_inv hx
          have hv := ok.val _ hmem n (List.mem_of_getElem? hn)
          exact ev_is (ev_call (ea_cons (ev_var rfl) (ea_cons ev_c (ea_cons ev_c ea_nil))) v_is_from_to) (by rw [decide_eq_true hv.1, decide_eq_true hv.2]; rfl)
        · unfold given
          rw [List.filter_eq_self.mpr fun _ _ => rfl, List.length_map, ok.sq _ hmem, List.map_replicate]
          exact (List.map_const' ..).trans (by rw [List.length_range])
        · simp
        · exact ⟨_, _, rfl, (e.trans e2).trans e3⟩
    · rintro σ' H' ⟨_, _, _, e⟩
      exact q H' e
/-! ### walk_row -/
def sp_walk_row (K : PySem.W.Frag) : Sp := fun vs H Q _ => ∃ (a : Addr) (A : List (List Int)) (n : Nat), vs = [.ref a, .int (n : Int)] ∧ MatH K true H a A ∧ TabOk A ∧ 1 ≤ n ∧ n ≤ 300 ∧ RetL (vi (wrow A n)) H Q
theorem l_walk_row {K : PySem.W.Frag} {H : Hp} {a : Addr} {A : List (List Int)} {n : Nat} (h : MatH K true H a A) (ok : TabOk A) (h1 : 1 ≤ n) (hn : n ≤ 300) : SpL (sp_walk_row K) [.ref a, .int (n : Int)] H (vi (wrow A n)) := fun H1 e Q q E => ⟨a, A, n, rfl, h.ex e, ok, h1, hn, q⟩
theorem ok_walk_row (T : Txt K mg) : FnG P w K mg base CX0 4 T.a_walk_row T.d_walk_row ["table", "many"] (sp_walk_row K) := by
  refine okG T.F_walk_row sc_walk_row (fun vs H Q E h => ?_) (fun cdv A out s H vs Q E hr h => ?_)
  · obtain ⟨a, A, n, rfl, hM, ok, h1, hn, q⟩ := h
    rfl
  · obtain ⟨a, A, n, rfl, hM, ok, h1, hn, q⟩ := h
    refine ⟨_, (pss_cons (ps_expr (callG (ok_check_table T) (hr.mono (by decide)) (by rfl) T.g_check_table T.F_check_table.kp (b_check_table T) .nil pass0 (pa_cons (pv 0) pa_nil)))
    (pss_cons (ps_expr (callG (ok_check_many T) (hr.mono (by decide)) (by rfl) T.g_check_many T.F_check_many.kp (b_check_many T) .nil pass0 (pa_cons (pv 1) pa_nil)))
    (pss_one (ps_ret (callG (ok_row_of_walks T) (hr.mono (by decide)) (by rfl) T.g_row_of_walks T.F_row_of_walks.kp (b_row_of_walks T) .nil pass0 (pa_cons (pv 0) (pa_cons (pv 1) pa_nil))))))), ?_⟩
    refine q_drop (ev_call (ea_cons (ev_var rfl) ea_nil) (v_check_table hM ok)) fun H1 e1 => ?_
    refine q_drop (ev_call (ea_cons (ev_var rfl) ea_nil) (v_check_many (by omega) (by omega))) fun H2 e2 => ?_
    exact s_retL (el_call (ea_cons (ev_var rfl) (ea_cons (ev_var rfl) ea_nil)) (l_row_of_walks (hM.ex (e1.trans e2)) ok (by omega))) fun p H3 f3 e3 g3 => q p H3 (fresh_back (e1.trans e2) f3) ((e1.trans e2).trans e3) g3
/-! ### _law_right -/
def sp_law_right (K : PySem.W.Frag) : Sp := fun vs H Q _ => ∃ (a : Addr) (n : Nat), vs = [.ref a] ∧ Well H a n ∧ n + 10000 ≤ 2 ^ 50 ∧ ∀ H2, But a H H2 → Q (.bl true) H2
theorem ok_law_right (T : Txt K mg) : FnG P w K mg base CX0 5 T.a_law_right T.d_law_right ["well"] (sp_law_right K) := by
  refine okG T.F_law_right sc_law_right (fun vs H Q E h => ?_) (fun cdv A out s H vs Q E hr h => ?_)
  · obtain ⟨a, n, rfl, hw, hn, q⟩ := h
    rfl
  · obtain ⟨a, n, rfl, hw, hn, q⟩ := h
    refine ⟨_, (pss_cons (ps_set (i := 1) sc_law_right.nd rfl (.inl rfl) (callG (ok_law_lines T) (hr.mono (by decide)) (by rfl) T.g_law_lines T.F_law_lines.kp (b_law_lines T) .nil pass0 (pa_cons (pv 0) (pa_cons (pe_op op_add pe_int (callG (ok_law_draw T) (hr.mono (by decide)) (by rfl) T.g_law_draw T.F_law_draw.kp (b_law_draw T) .nil pass0 (pa_cons (pv 0) (pa_cons pe_int pa_nil)))) (pa_cons (pe_ix (ix_listK (K := K) rfl) (pe_lst (pa_cons pe_int (pa_cons pe_int (pa_cons pe_int (pa_cons (pe_op op_powW pe_int pe_int) pa_nil))))) (callG (ok_law_draw T) (hr.mono (by decide)) (by rfl) T.g_law_draw T.F_law_draw.kp (b_law_draw T) .nil pass0 (pa_cons (pv 0) (pa_cons pe_int pa_nil))) (fun _ _ => rfl)) pa_nil)))))
    (pss_cons (ps_set (i := 2) sc_law_right.nd rfl (.inl rfl) (callG (ok_law_draw T) (hr.mono (by decide)) (by rfl) T.g_law_draw T.F_law_draw.kp (b_law_draw T) .nil pass0 (pa_cons (pv 0) (pa_cons pe_int pa_nil))))
    (pss_cons (ps_set (i := 3) sc_law_right.nd rfl (.inl rfl) (pe_ifExp (pt_cmpR op_eq (pv 2) pe_int (nomark _)) (pe_op op_sub pe_int (callG (ok_law_draw T) (hr.mono (by decide)) (by rfl) T.g_law_draw T.F_law_draw.kp (b_law_draw T) .nil pass0 (pa_cons (pv 0) (pa_cons pe_int pa_nil)))) (pe_op op_add pe_int (callG (ok_law_draw T) (hr.mono (by decide)) (by rfl) T.g_law_draw T.F_law_draw.kp (b_law_draw T) .nil pass0 (pa_cons (pv 0) (pa_cons (pe_ix (ix_listK (K := K) rfl) (pe_lst (pa_cons pe_int (pa_cons pe_int (pa_cons pe_int pa_nil)))) (pe_callB (call_max2 rfl) (by rfl) T.z_max bt_max (pa_cons pe_int (pa_cons (pe_op op_sub (pv 2) pe_int) pa_nil))) (fun _ _ => rfl)) pa_nil))))))
    (pss_cons (ps_set (i := 4) sc_law_right.nd rfl (.inl rfl) (callG (ok_law_due T) (hr.mono (by decide)) (by rfl) T.g_law_due T.F_law_due.kp (b_law_due T) .nil pass0 (pa_cons (pv 1) (pa_cons (pv 3) pa_nil))))
    (pss_cons (ps_set (i := 5) sc_law_right.nd rfl (.inl rfl) (callG (ok_walk_row T) (hr.mono (by decide)) (by rfl) T.g_walk_row T.F_walk_row.kp (b_walk_row T) .nil pass0 (pa_cons (pv 1) (pa_cons (pv 3) pa_nil))))
    (pss_cons (ps_if (PW.pt (pw_or (pt_not (pt_val (pe_callB (call_isiK' (K := K) rfl) (by rfl) T.z_isinstance bt_isinstance (pa_cons (pv 5) (pa_cons (pe_bltn (v := .ty "list") (by rfl) T.z_list bt_list rfl) pa_nil))))) (pw_or1 (pt_cmpR (op_neDK (K := K) rfl hr.rm.units) (pv 5) (pv 4) (nomark _)))))
      (pss_one (ps_ret pe_bl))
      pss_nil)
    (pss_cons (ps_asg pe_non (pg_sub (pv 5) pe_int set_list))
    (pss_cons (ps_expr (pe_bm PySem.F.plainAttrs_list PySem.F.slot_list_append PySem.F.type_list_append mt_append (pv 5) (pa_cons pe_int pa_nil)))
    (pss_cons (ps_set (i := 6) sc_law_right.nd rfl (.inl rfl) (pe_op op_add pe_int (callG (ok_law_draw T) (hr.mono (by decide)) (by rfl) T.g_law_draw T.F_law_draw.kp (b_law_draw T) .nil pass0 (pa_cons (pv 0) (pa_cons (pv 3) pa_nil)))))
    (pss_one (ps_ret (pe_and (pe_cmpR (op_eqDK (K := K) rfl hr.rm.units) (callGK0 (ok_walk_row T) (hr.mono (by decide)) (by rfl) T.g_walk_row T.F_walk_row.kp (k_walk_row_0_many_table T) pass0 (pk_cons (pv 3) (pk_cons (pv 1) pk_nil))) (pv 4) (nomark _)) (pe_one (pe_cmpR (op_eqDK (K := K) rfl hr.rm.units) (callG (ok_walk_row T) (hr.mono (by decide)) (by rfl) T.g_walk_row T.F_walk_row.kp (b_walk_row T) .nil pass0 (pa_cons (pv 1) (pa_cons (pv 6) pa_nil))) (pe_slice (sl_listK (K := K) rfl) (pv 4) po_none (po_some (pv 6))) (nomark _))))))))))))))), ?_⟩
    refine qw_asgWM (wm_law_lines (P := fun _ _ => True) (ewa_mono (ewa_cons (ew_pure (P := fun v => v = .ref a) (ev_var rfl) rfl) (ewa_cons (ew_add (P := fun r => 1 ≤ r ∧ r ≤ 6) (ew_c (P := fun r => r = 1) rfl) (ew_drawC (m := 6) rfl ev_c (by decide) (lt8000 (by decide))) (fun x y hx hy => by omega)) (ewa_cons (ew_ix (P1 := fun v => ∃ g : Int, v = .int g ∧ 0 ≤ g ∧ g ≤ 1000000) (xs := [.int 1, .int 3, .int 50, .int (10 ^ 6)]) (el_lst (ea_cons ev_c (ea_cons ev_c (ea_cons ev_c (ea_cons (ev_op ev_c ev_c (rv_I (cpw (by decide) (by decide) (by decide)))) ea_nil)))) (by show 4 ≤ 100000; decide)) (ew_drawC (m := 4) rfl ev_c (by decide) (lt8000 (by decide))) ?_) ewa_nil))) ?_)) hw (by omega) ?_
    · rintro v ⟨r, rfl, r0, r1⟩
      obtain ⟨j, rfl⟩ : ∃ j : Nat, r = j := ⟨r.toNat, by omega⟩
      match j, r1 with
      | 0, _ => exact ⟨_, _, rfl, rfl, 1, rfl, by decide, by decide⟩
      | 1, _ => exact ⟨_, _, rfl, rfl, 3, rfl, by decide, by decide⟩
      | 2, _ => exact ⟨_, _, rfl, rfl, 50, rfl, by decide, by decide⟩
      | 3, _ => exact ⟨_, _, rfl, rfl, 10 ^ 6, rfl, by decide, by decide⟩
      | j + 4, r1 => omega
    · rintro vs ⟨_, _, rfl, rfl, _, _, rfl, ⟨r, rfl, r0, r1⟩, _, _, rfl, ⟨g, rfl, g0, g1⟩, rfl⟩
      exact ⟨r.toNat, g, by rw [Int.toNat_of_nonneg (by omega)], by omega, by omega, g0, g1, trivial⟩
    rintro pA A H1 f1 b1 w1 mA ⟨ok, _⟩
    refine qw_asg (ew_drawC (m := 6) rfl ev_c (by decide) (lt8000 (by decide))) w1 (by omega) ?_
    rintro _ H2 b2 w2 ⟨way, rfl, y0, y1⟩
    obtain ⟨gg, hgg, g0, g1⟩ : ∃ gg : Int, atI [V.int 12, .int 40, .int 300] (if way - 3 > 0 then way - 3 else 0) = some (.int gg) ∧ 1 ≤ gg ∧ gg ≤ 300 := by
      have : way = 0 ∨ way = 1 ∨ way = 2 ∨ way = 3 ∨ way = 4 ∨ way = 5 := by omega
      rcases this with e | e | e | e | e | e
      all_goals
        subst e
        exact ⟨_, rfl, by decide, by decide⟩
    refine qw_asg (P := fun v => ∃ m : Int, v = .int m ∧ 1 ≤ m ∧ m ≤ 300) (ew_if (d := 2) (b := decide (V.int way = V.int 0)) (et_test (ev_op (ev_var rfl) ev_c (rv_eq rfl))) (fun _ => ew_weak (ew_sub (P := fun m => 1 ≤ m ∧ m ≤ 300) (ew_c (P := fun r => r = 300) rfl) (ew_drawC (m := 10) rfl ev_c (by decide) (lt8000 (by decide))) (fun x y hx hy => by omega)) (by omega)) (fun hb => ew_weak (ew_add (P := fun m => 1 ≤ m ∧ m ≤ 300) (P2 := fun m => 0 ≤ m ∧ m < 300) (ew_c (P := fun r => r = 1) rfl) (EvW.mono (ew_draw (P := fun v => v = .int gg) rfl (ew_pure (ev_ixN (z := .int gg) (el_lst (ea_cons ev_c (ea_cons ev_c (ea_cons ev_c ea_nil))) (by show 3 ≤ 100000; decide)) (fun _ _ => ev_max2 ev_c (ev_op (ev_var rfl) ev_c rv_I0)) hgg) rfl) (fun v e => ⟨gg, e, by omega, lt8000 (by omega)⟩)) (fun v ⟨m, r, e, ev, r0, r1⟩ => ⟨r, ev, by cases e; omega⟩)) (fun x y hx hy => by omega)) (by omega))) w2 (by omega) ?_
    rintro _ H3 b3 w3 ⟨m, rfl, m0, m1⟩
    obtain ⟨N, rfl⟩ : ∃ N : Nat, m = N := ⟨m.toNat, by omega⟩
    have b23 := b2.trans b3
    have M3 : MatH K true H3 pA A := (mA.ex (hid_but b23)).ex (ex_hid (But.refl a H3))
    refine q_asgL (el_call (ea_cons (ev_var rfl) (ea_cons (ev_var rfl) ea_nil)) (l_law_due M3 ok (by omega))) fun pd H4 f4 e4 g4 => ?_
    refine q_asgL (el_call (ea_cons (ev_var rfl) (ea_cons (ev_var rfl) ea_nil)) (l_walk_row (M3.ex e4) ok (by omega) (by omega))) fun pf H5 f5 e5 g5 => ?_
    have gd5 := e5 _ _ g4
    refine q_when (b := false) (et_or (a := false) (b := false) (et_not (a := true) (et_B (ev_isi (ev_var rfl) (fun H1 e => ty_seql (ex_l e (sq_of g5))) kb_list_list))) fun _ => et_is (et_test (ev_op (ev_var rfl) (ev_var rfl) (rv_neL (sq_of g5) (sq_of gd5)))) (by simp)) (fun h => nomatch h) fun _ H6 e6 => ?_
    refine q_setL (j := 0) (e6 _ _ g5) ev_c (ev_var rfl) ev_c (by rw [List.length_map, wrow_length]; omega) fun H7 e7 => ?_
    refine q_app upd_same (ev_var rfl) ev_c (by rw [List.length_set, List.length_map, wrow_length]; omega) fun H8 e8 => ?_
    have eG : Ex H4 (upd H8 pf (.lst ((vi (wrow A N)).set 0 .non ++ [.int 0]))) := ((((e5.trans e6).trans e7).mut f5).trans e8).mut f5
    generalize upd H8 pf (.lst ((vi (wrow A N)).set 0 .non ++ [.int 0])) = G at *
    have eG3 := e4.trans eG
    have MG := M3.ex eG3
    have gdG := eG _ _ g4
    have wG := w3.ex eG3
    have bG : But a H G := ((b1.trans b23).trans (But.ex eG3))
    have MhG : MatH K true (hid a G) pA A := mA.ex (hid_but (b23.trans (But.ex eG3)))
    refine qw_asg (ew_add (P := fun r => 1 ≤ r ∧ r ≤ (N : Int)) (ew_c (P := fun r => r = 1) rfl) (ew_drawC (m := (N : Int)) rfl (ev_var rfl) (by omega) (lt8000 (by omega))) (fun x y hx hy => by omega)) wG (by omega) ?_
    rintro _ H9 b9 w9 ⟨f, rfl, h0, h1⟩
    obtain ⟨F, rfl⟩ : ∃ F : Nat, f = F := ⟨f.toNat, by omega⟩
    have M9 : MatH K true H9 pA A := (MhG.ex (hid_but b9)).ex (ex_hid (But.refl a H9))
    have nd : pd ≠ a := w3.ne f4
    have gd9 := b9 _ _ nd gdG
    refine s_ret (v := .bl true) (ev_is (ev_andV (a := true) (b := true) (ev_is (ev_eqLV (el_callK ea_nil (ea_cons (ev_var rfl) (ea_cons (ev_var rfl) ea_nil)) (l_walk_row M9 ok (by omega) (by omega))) (ev_var rfl) (sq_of gd9)) (by simp)) fun _ => ev_is (ev_eqLL (ns := wrow A F) (ms := wrow A F) (el_call (ea_cons (ev_var rfl) (ea_cons (ev_var rfl) ea_nil)) (l_walk_row M9 ok (by omega) (by omega))) (el_is (el_sl (ev_var rfl) eo_none (eo_some (ev_var rfl)) (sq_of gd9)) ?_)) (by simp)) rfl) fun H10 e10 => q H10 (bG.trans (b9.trans (But.ex e10)))
    rw [cut_take]
    unfold vi
    rw [← List.map_take, wrow_take (by omega)]
/-! ### law -/
def sp_law (K : PySem.W.Frag) : Sp := fun vs H Q _ => ∃ (a : Addr) (ns : List Int), vs = [.ref a] ∧ SqL K H a (vi ns) ∧ ns.length ≤ 63 ∧ ∀ H', Q (.bl true) H'
theorem ok_law (T : Txt K mg) : FnG P w K mg base CX0 6 T.a_law T.d_law ["script"] (sp_law K) := by
  refine okG T.F_law sc_law (fun vs H Q E h => ?_) (fun cdv A out s H vs Q E hr h => ?_)
  · obtain ⟨a, ns, rfl, hS, hl, q⟩ := h
    rfl
  · obtain ⟨a, ns, rfl, hS, hl, q⟩ := h
    refine ⟨_, (pss_cons (ps_for PassesOwn.never rfl (pi_range1 (by rfl) T.z_range (pa_cons (pe_callB (call_max2 rfl) (by rfl) T.z_max bt_max (pa_cons pe_int (pa_cons (pe_callB (call_min2 rfl) (by rfl) T.z_min bt_min (pa_cons pe_int (pa_cons (pe_callB (call_lenK (K := K) rfl) (by rfl) T.z_len bt_len (pa_cons (pv 0) pa_nil)) pa_nil))) pa_nil))) pa_nil)) (pg_name (i := 1) sc_law.nd rfl (.inl rfl))
      (pss_one (ps_if (pt_not (pt_val (callG (ok_law_right T) (hr.mono (by decide)) (by rfl) T.g_law_right T.F_law_right.kp (b_law_right T) .nil pass0 (pa_cons (callG (ok_law_well T) (hr.mono (by decide)) (by rfl) T.g_law_well T.F_law_well.kp (b_law_well T) .nil pass0 (pa_cons (pv 0) (pa_cons (pv 1) pa_nil))) pa_nil))))
        (pss_one (ps_ret pe_bl))
        pss_nil)))
    (pss_one (ps_ret pe_bl))), ?_⟩
    refine q_forR1 (ea_cons (ev_max2 ev_c (ev_min2 ev_c (ev_len (ev_var rfl) hS))) ea_nil) ?_ (fun i σ' H' => ∃ y1, σ' = [some (.ref a), y1] ∧ Ex H H') ?_ ?_ ?_
    · split <;> split <;> omega
    · intro H1 e1
      exact ⟨_, rfl, e1⟩
    · rintro i σ' H' hi ⟨y1, rfl, e⟩
      have h6 : (i : Int) < 7 := by
        split at hi <;> split at hi <;> omega
      refine ⟨.ref a, rfl, .int i, rfl, a, ns, i, rfl, ex_l e hS, by omega, by omega, fun p H1 hp e1 hw => ?_⟩
      refine ⟨p, 0, rfl, hw, by decide, fun H2 b2 => ⟨true, rfl, iteF ?_⟩⟩
      exact ⟨_, rfl, e.trans (ex_but e1 hp b2)⟩
    · rintro σ' H' ⟨y1, rfl, e⟩
      exact s_ret ev_c fun H2 _ => q H2
end
theorem all_mk {w : World} {K : PySem.W.Frag} {h : Heap} {mg : Str → Option Value} {fa : Addr} (X : K.In h) (G : h.Ns mainGlobals mg) (hfa : mg "law" = some (.ref fa))
    {f0 : Addr} {od0 an0 : Option Addr} {sl0 : Array (Option Value)} {oc0 kV0 dc0 pm0 cd0 ct0 : Value}
    (a0 : PySem.W.nsIn K mainGlobals "is_whole" = some (some (.ref f0))) (l0 : K.lookup f0 = some ⟨oc0, od0, .func (PySem.W.fnOf "is_whole" "is_whole" (defArgs s_is_whole) (defBody s_is_whole) (defScope s_is_whole) .none kV0 dc0 pm0 an0 cd0 ct0), sl0⟩) (c0 : PySem.W.codeIn K cd0 "is_whole" = true) (k0 : PySem.W.keepIn K (.ref f0) = true)
    {f1 : Addr} {od1 an1 : Option Addr} {sl1 : Array (Option Value)} {oc1 kV1 dc1 pm1 cd1 ct1 : Value}
    (a1 : PySem.W.nsIn K mainGlobals "_with_a_step" = some (some (.ref f1))) (l1 : K.lookup f1 = some ⟨oc1, od1, .func (PySem.W.fnOf "_with_a_step" "_with_a_step" (defArgs s_with_a_step) (defBody s_with_a_step) (defScope s_with_a_step) .none kV1 dc1 pm1 an1 cd1 ct1), sl1⟩) (c1 : PySem.W.codeIn K cd1 "_with_a_step" = true) (k1 : PySem.W.keepIn K (.ref f1) = true)
    {f2 : Addr} {od2 an2 : Option Addr} {sl2 : Array (Option Value)} {oc2 kV2 dc2 pm2 cd2 ct2 : Value}
    (a2 : PySem.W.nsIn K mainGlobals "_law_well" = some (some (.ref f2))) (l2 : K.lookup f2 = some ⟨oc2, od2, .func (PySem.W.fnOf "_law_well" "_law_well" (defArgs s_law_well) (defBody s_law_well) (defScope s_law_well) .none kV2 dc2 pm2 an2 cd2 ct2), sl2⟩) (c2 : PySem.W.codeIn K cd2 "_law_well" = true) (k2 : PySem.W.keepIn K (.ref f2) = true)
    {f3 : Addr} {od3 an3 : Option Addr} {sl3 : Array (Option Value)} {oc3 kV3 dc3 pm3 cd3 ct3 : Value}
    (a3 : PySem.W.nsIn K mainGlobals "_law_draw" = some (some (.ref f3))) (l3 : K.lookup f3 = some ⟨oc3, od3, .func (PySem.W.fnOf "_law_draw" "_law_draw" (defArgs s_law_draw) (defBody s_law_draw) (defScope s_law_draw) .none kV3 dc3 pm3 an3 cd3 ct3), sl3⟩) (c3 : PySem.W.codeIn K cd3 "_law_draw" = true) (k3 : PySem.W.keepIn K (.ref f3) = true)
    {f4 : Addr} {od4 an4 : Option Addr} {sl4 : Array (Option Value)} {oc4 kV4 dc4 pm4 cd4 ct4 : Value}
    (a4 : PySem.W.nsIn K mainGlobals "_law_next" = some (some (.ref f4))) (l4 : K.lookup f4 = some ⟨oc4, od4, .func (PySem.W.fnOf "_law_next" "_law_next" (defArgs s_law_next) (defBody s_law_next) (defScope s_law_next) .none kV4 dc4 pm4 an4 cd4 ct4), sl4⟩) (c4 : PySem.W.codeIn K cd4 "_law_next" = true) (k4 : PySem.W.keepIn K (.ref f4) = true)
    {f5 : Addr} {od5 an5 : Option Addr} {sl5 : Array (Option Value)} {oc5 kV5 dc5 pm5 cd5 ct5 : Value}
    (a5 : PySem.W.nsIn K mainGlobals "is_from_to" = some (some (.ref f5))) (l5 : K.lookup f5 = some ⟨oc5, od5, .func (PySem.W.fnOf "is_from_to" "is_from_to" (defArgs s_is_from_to) (defBody s_is_from_to) (defScope s_is_from_to) .none kV5 dc5 pm5 an5 cd5 ct5), sl5⟩) (c5 : PySem.W.codeIn K cd5 "is_from_to" = true) (k5 : PySem.W.keepIn K (.ref f5) = true)
    {f6 : Addr} {od6 an6 : Option Addr} {sl6 : Array (Option Value)} {oc6 kV6 dc6 pm6 cd6 ct6 : Value}
    (a6 : PySem.W.nsIn K mainGlobals "row_of_walks" = some (some (.ref f6))) (l6 : K.lookup f6 = some ⟨oc6, od6, .func (PySem.W.fnOf "row_of_walks" "row_of_walks" (defArgs s_row_of_walks) (defBody s_row_of_walks) (defScope s_row_of_walks) .none kV6 dc6 pm6 an6 cd6 ct6), sl6⟩) (c6 : PySem.W.codeIn K cd6 "row_of_walks" = true) (k6 : PySem.W.keepIn K (.ref f6) = true)
    {f7 : Addr} {od7 an7 : Option Addr} {sl7 : Array (Option Value)} {oc7 kV7 dc7 pm7 cd7 ct7 : Value}
    (a7 : PySem.W.nsIn K mainGlobals "_law_lines" = some (some (.ref f7))) (l7 : K.lookup f7 = some ⟨oc7, od7, .func (PySem.W.fnOf "_law_lines" "_law_lines" (defArgs s_law_lines) (defBody s_law_lines) (defScope s_law_lines) .none kV7 dc7 pm7 an7 cd7 ct7), sl7⟩) (c7 : PySem.W.codeIn K cd7 "_law_lines" = true) (k7 : PySem.W.keepIn K (.ref f7) = true)
    {f8 : Addr} {od8 an8 : Option Addr} {sl8 : Array (Option Value)} {oc8 kV8 dc8 pm8 cd8 ct8 : Value}
    (a8 : PySem.W.nsIn K mainGlobals "_law_due" = some (some (.ref f8))) (l8 : K.lookup f8 = some ⟨oc8, od8, .func (PySem.W.fnOf "_law_due" "_law_due" (defArgs s_law_due) (defBody s_law_due) (defScope s_law_due) .none kV8 dc8 pm8 an8 cd8 ct8), sl8⟩) (c8 : PySem.W.codeIn K cd8 "_law_due" = true) (k8 : PySem.W.keepIn K (.ref f8) = true)
    {f9 : Addr} {od9 an9 : Option Addr} {sl9 : Array (Option Value)} {oc9 kV9 dc9 pm9 cd9 ct9 : Value}
    (a9 : PySem.W.nsIn K mainGlobals "check_many" = some (some (.ref f9))) (l9 : K.lookup f9 = some ⟨oc9, od9, .func (PySem.W.fnOf "check_many" "check_many" (defArgs s_check_many) (defBody s_check_many) (defScope s_check_many) .none kV9 dc9 pm9 an9 cd9 ct9), sl9⟩) (c9 : PySem.W.codeIn K cd9 "check_many" = true) (k9 : PySem.W.keepIn K (.ref f9) = true)
    {f10 : Addr} {od10 an10 : Option Addr} {sl10 : Array (Option Value)} {oc10 kV10 dc10 pm10 cd10 ct10 : Value}
    (a10 : PySem.W.nsIn K mainGlobals "check_table" = some (some (.ref f10))) (l10 : K.lookup f10 = some ⟨oc10, od10, .func (PySem.W.fnOf "check_table" "check_table" (defArgs s_check_table) (defBody s_check_table) (defScope s_check_table) .none kV10 dc10 pm10 an10 cd10 ct10), sl10⟩) (c10 : PySem.W.codeIn K cd10 "check_table" = true) (k10 : PySem.W.keepIn K (.ref f10) = true)
    {f11 : Addr} {od11 an11 : Option Addr} {sl11 : Array (Option Value)} {oc11 kV11 dc11 pm11 cd11 ct11 : Value}
    (a11 : PySem.W.nsIn K mainGlobals "walk_row" = some (some (.ref f11))) (l11 : K.lookup f11 = some ⟨oc11, od11, .func (PySem.W.fnOf "walk_row" "walk_row" (defArgs s_walk_row) (defBody s_walk_row) (defScope s_walk_row) .none kV11 dc11 pm11 an11 cd11 ct11), sl11⟩) (c11 : PySem.W.codeIn K cd11 "walk_row" = true) (k11 : PySem.W.keepIn K (.ref f11) = true)
    {f12 : Addr} {od12 an12 : Option Addr} {sl12 : Array (Option Value)} {oc12 kV12 dc12 pm12 cd12 ct12 : Value}
    (a12 : PySem.W.nsIn K mainGlobals "_law_right" = some (some (.ref f12))) (l12 : K.lookup f12 = some ⟨oc12, od12, .func (PySem.W.fnOf "_law_right" "_law_right" (defArgs s_law_right) (defBody s_law_right) (defScope s_law_right) .none kV12 dc12 pm12 an12 cd12 ct12), sl12⟩) (c12 : PySem.W.codeIn K cd12 "_law_right" = true) (k12 : PySem.W.keepIn K (.ref f12) = true)
    {f13 : Addr} {od13 an13 : Option Addr} {sl13 : Array (Option Value)} {oc13 kV13 dc13 pm13 cd13 ct13 : Value}
    (a13 : PySem.W.nsIn K mainGlobals "law" = some (some (.ref f13))) (l13 : K.lookup f13 = some ⟨oc13, od13, .func (PySem.W.fnOf "law" "law" (defArgs s_law) (defBody s_law) (defScope s_law) .none kV13 dc13 pm13 an13 cd13 ct13), sl13⟩) (c13 : PySem.W.codeIn K cd13 "law" = true) (k13 : PySem.W.keepIn K (.ref f13) = true)
    {t_MOST_NUMBERS : Tok} (m_MOST_NUMBERS : PySem.W.nsIn K mainGlobals "MOST_NUMBERS" = some (some (.int (300) t_MOST_NUMBERS)))
    {t_MOST_PLACES : Tok} (m_MOST_PLACES : PySem.W.nsIn K mainGlobals "MOST_PLACES" = some (some (.int (6) t_MOST_PLACES)))
    {t_MOST_STEPS : Tok} (m_MOST_STEPS : PySem.W.nsIn K mainGlobals "MOST_STEPS" = some (some (.int (1000000) t_MOST_STEPS)))
    (z_abs : PySem.W.nsIn K mainGlobals "abs" = some none)
    (z_all : PySem.W.nsIn K mainGlobals "all" = some none)
    (z_bool : PySem.W.nsIn K mainGlobals "bool" = some none)
    (z_int : PySem.W.nsIn K mainGlobals "int" = some none)
    (z_isinstance : PySem.W.nsIn K mainGlobals "isinstance" = some none)
    (z_len : PySem.W.nsIn K mainGlobals "len" = some none)
    (z_list : PySem.W.nsIn K mainGlobals "list" = some none)
    (z_max : PySem.W.nsIn K mainGlobals "max" = some none)
    (z_min : PySem.W.nsIn K mainGlobals "min" = some none)
    (z_range : PySem.W.nsIn K mainGlobals "range" = some none)
    (z_sum : PySem.W.nsIn K mainGlobals "sum" = some none)
    (z_tuple : PySem.W.nsIn K mainGlobals "tuple" = some none)
    (z_zip : PySem.W.nsIn K mainGlobals "zip" = some none)
    : ∃ fd : FuncData, (∀ (s : Shared) (v : Value), BindsTo s fd ⟨[v], []⟩ [("script", v)]) ∧ ∀ base : Heap, K.In base → base.Ns mainGlobals mg → FnG PySem.Challenge.rw_backafter_k66_walks_by_going.prog w K mg base CX0 6 fa fd ["script"] (sp_law K) := by
  have e := hfa.symm.trans (PySem.W.mg_of X G a13)
  cases e
  let T : Txt K mg := {
    a_is_whole := _
    d_is_whole := _
    F_is_whole := fun_mk (st := s_is_whole) l0 c0 k0
    g_is_whole := PySem.W.mg_of X G a0
    a_with_a_step := _
    d_with_a_step := _
    F_with_a_step := fun_mk (st := s_with_a_step) l1 c1 k1
    g_with_a_step := PySem.W.mg_of X G a1
    a_law_well := _
    d_law_well := _
    F_law_well := fun_mk (st := s_law_well) l2 c2 k2
    g_law_well := PySem.W.mg_of X G a2
    a_law_draw := _
    d_law_draw := _
    F_law_draw := fun_mk (st := s_law_draw) l3 c3 k3
    g_law_draw := PySem.W.mg_of X G a3
    a_law_next := _
    d_law_next := _
    F_law_next := fun_mk (st := s_law_next) l4 c4 k4
    g_law_next := PySem.W.mg_of X G a4
    a_is_from_to := _
    d_is_from_to := _
    F_is_from_to := fun_mk (st := s_is_from_to) l5 c5 k5
    g_is_from_to := PySem.W.mg_of X G a5
    a_row_of_walks := _
    d_row_of_walks := _
    F_row_of_walks := fun_mk (st := s_row_of_walks) l6 c6 k6
    g_row_of_walks := PySem.W.mg_of X G a6
    a_law_lines := _
    d_law_lines := _
    F_law_lines := fun_mk (st := s_law_lines) l7 c7 k7
    g_law_lines := PySem.W.mg_of X G a7
    a_law_due := _
    d_law_due := _
    F_law_due := fun_mk (st := s_law_due) l8 c8 k8
    g_law_due := PySem.W.mg_of X G a8
    a_check_many := _
    d_check_many := _
    F_check_many := fun_mk (st := s_check_many) l9 c9 k9
    g_check_many := PySem.W.mg_of X G a9
    a_check_table := _
    d_check_table := _
    F_check_table := fun_mk (st := s_check_table) l10 c10 k10
    g_check_table := PySem.W.mg_of X G a10
    a_walk_row := _
    d_walk_row := _
    F_walk_row := fun_mk (st := s_walk_row) l11 c11 k11
    g_walk_row := PySem.W.mg_of X G a11
    a_law_right := _
    d_law_right := _
    F_law_right := fun_mk (st := s_law_right) l12 c12 k12
    g_law_right := PySem.W.mg_of X G a12
    a_law := _
    d_law := _
    F_law := fun_mk (st := s_law) l13 c13 k13
    g_law := PySem.W.mg_of X G a13
    t_MOST_NUMBERS := t_MOST_NUMBERS
    c_MOST_NUMBERS := PySem.W.mg_of X G m_MOST_NUMBERS
    t_MOST_PLACES := t_MOST_PLACES
    c_MOST_PLACES := PySem.W.mg_of X G m_MOST_PLACES
    t_MOST_STEPS := t_MOST_STEPS
    c_MOST_STEPS := PySem.W.mg_of X G m_MOST_STEPS
    z_abs := PySem.W.mg_none_of X G z_abs
    z_all := PySem.W.mg_none_of X G z_all
    z_bool := PySem.W.mg_none_of X G z_bool
    z_int := PySem.W.mg_none_of X G z_int
    z_isinstance := PySem.W.mg_none_of X G z_isinstance
    z_len := PySem.W.mg_none_of X G z_len
    z_list := PySem.W.mg_none_of X G z_list
    z_max := PySem.W.mg_none_of X G z_max
    z_min := PySem.W.mg_none_of X G z_min
    z_range := PySem.W.mg_none_of X G z_range
    z_sum := PySem.W.mg_none_of X G z_sum
    z_tuple := PySem.W.mg_none_of X G z_tuple
    z_zip := PySem.W.mg_none_of X G z_zip }
  exact ⟨T.d_law, fun s v => .of_eq rfl, fun base _ _ => ok_law T⟩
end My
open PySem PySem.W PyProof.Rows
set_option maxHeartbeats 0 in
theorem PySem.Challenge.cw_backafter_k66_walks_by_going_holds : PySem.Challenge.rw_backafter_k66_walks_by_going.Holds := by
  w_on; o_law; k_head; (case hw => w_witness2)
  k_fill
  refine Bk.walkG (l := PySem.Challenge.rw_backafter_k66_walks_by_going) (n := 63) (k := 6) (x := "script") (CX := fun _ => L2.CX0) (sp := fun w => My.sp_law _) rfl (by decide) rfl ⟨⟨rfl, by decide, by decide⟩, rfl⟩ (fun w h Y => PySem.W.kIn_of Y) ?F (fun _ _ a ns hl _ hS => ⟨a, ns, rfl, hS, hl, fun _ => rfl⟩) (fun _ _ _ _ _ h => h)
  case F =>
    intro w mg fa h KX G hmg
    refine' My.all_mk KX G hmg ?a0 ?l0 ?c0 ?k0 ?a1 ?l1 ?c1 ?k1 ?a2 ?l2 ?c2 ?k2 ?a3 ?l3 ?c3 ?k3 ?a4 ?l4 ?c4 ?k4 ?a5 ?l5 ?c5 ?k5 ?a6 ?l6 ?c6 ?k6 ?a7 ?l7 ?c7 ?k7 ?a8 ?l8 ?c8 ?k8 ?a9 ?l9 ?c9 ?k9 ?a10 ?l10 ?c10 ?k10 ?a11 ?l11 ?c11 ?k11 ?a12 ?l12 ?c12 ?k12 ?a13 ?l13 ?c13 ?k13 ?m_MOST_NUMBERS ?m_MOST_PLACES ?m_MOST_STEPS ?z_abs ?z_all ?z_bool ?z_int ?z_isinstance ?z_len ?z_list ?z_max ?z_min ?z_range ?z_sum ?z_tuple ?z_zip
    (case a0 => k_is); (case l0 => k_is); (case c0 => k_is); (case k0 => k_is); (case a1 => k_is); (case l1 => k_is); (case c1 => k_is); (case k1 => k_is); (case a2 => k_is); (case l2 => k_is); (case c2 => k_is); (case k2 => k_is); (case a3 => k_is); (case l3 => k_is); (case c3 => k_is); (case k3 => k_is); (case a4 => k_is); (case l4 => k_is); (case c4 => k_is); (case k4 => k_is); (case a5 => k_is); (case l5 => k_is); (case c5 => k_is); (case k5 => k_is); (case a6 => k_is); (case l6 => k_is); (case c6 => k_is); (case k6 => k_is); (case a7 => k_is); (case l7 => k_is); (case c7 => k_is); (case k7 => k_is); (case a8 => k_is); (case l8 => k_is); (case c8 => k_is); (case k8 => k_is); (case a9 => k_is); (case l9 => k_is); (case c9 => k_is); (case k9 => k_is); (case a10 => k_is); (case l10 => k_is); (case c10 => k_is); (case k10 => k_is); (case a11 => k_is); (case l11 => k_is); (case c11 => k_is); (case k11 => k_is); (case a12 => k_is); (case l12 => k_is); (case c12 => k_is); (case k12 => k_is); (case a13 => k_is); (case l13 => k_is); (case c13 => k_is); (case k13 => k_is); (case m_MOST_NUMBERS => k_is); (case m_MOST_PLACES => k_is); (case m_MOST_STEPS => k_is); (case z_abs => k_is); (case z_all => k_is); (case z_bool => k_is); (case z_int => k_is); (case z_isinstance => k_is); (case z_len => k_is); (case z_list => k_is); (case z_max => k_is); (case z_min => k_is); (case z_range => k_is); (case z_sum => k_is); (case z_tuple => k_is); (case z_zip => k_is)
