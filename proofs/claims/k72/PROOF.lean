import PyProof.Rows.All
import Wide.All
import OpenK.AllK
import Wide.FinOn
import Lean
import PyProof.EqAt
import PyProof.EqKinds
import PyProof.TupleCall
import PyProof.P3In
import PyProof.NeData
import KE.KSortKey
import PyProof.Rows.SortRuns
import KE.KLam
import KE.KNestM
import PyProof.FitsReplace
import PyProof.StrBlockL
import KE.KDictList
import KE.KItemsList
import PyProof.DictWalks
import PyProof.DictRoadsH
import PyProof.CallStr
import KE.KIntText
import PyProof.DictCopy
import PyProof.NsDelKeeps
import KE.KTryMore
import PySem.Challenge.RW_leafjudge_k72_whole_desk_beside_rows
set_option Elab.async false
set_option linter.all false
set_option compiler.extract_closed false
set_option bootstrap.genMatcherCode false
set_option genSizeOf false
set_option genInjectivity false
set_option maxRecDepth 100000
open PySem renaming Addr→à,Value→á,Str→â,Shared→ã,model→ä,wpAny→å,Expr→æ,Heap→ç,eval→è,Stmt→é
theorem zzz(h:True:=by rfl):True:=h
theorem zzy(h:True:=by decide):True:=h
theorem zzx(h:True:=by intro _;rfl):True:=h
theorem zzv(h:True:=by intro _ _;rfl):True:=h
theorem zzt(h:True:=by first | exact FL _ | exact ZT _ cS cS | rfl):True:=h
theorem zzr(h:True:=by decide +kernel):True:=h
theorem zzq(h:True:=by with_unfolding_all rfl):True:=h
theorem zzp(h:True:=by intros;rfl):True:=h
theorem zzo(h:True:=by kernel_rfl):True:=h
theorem zzn(h:True:=by first | exact g4 gL | exact f7 gL | exact f7 (g4 gL) | exact f7 (f7 gL) | assumption):True:=h
theorem zzm(h:True:=by intros;rename_i h;(repeat obtain⟨_,h⟩:=h)<;>subst_vars<;>rfl):True:=h
section
variable{α β γ δ ε ζ η ι κ}{g:Prop}{p q r s t u:Prop}{A B C D E:α->Prop}{L M N O P Q:α->β->Prop}{a₃ b₃ c₃ d₃ e₃ f₃ g₃:α->β->γ->Prop}{a₄ b₄ c₄ d₄ e₄ f₄ g₄ h₄:α->β->γ->δ->Prop}{a₅ b₅ c₅ d₅ e₅ f₅ g₅:α->β->γ->δ->ε->Prop}{a₆ b₆ c₆ d₆ e₆ f₆ g₆:α->β->γ->δ->ε->ζ->Prop}{a₇ b₇:α->β->γ->δ->ε->ζ->η->Prop}{a₈ b₈ c₈ d₈ e₈ f₈ g₈:α->β->γ->δ->ε->ζ->η->ι->Prop}{a₉ b₉ c₉:α->β->γ->δ->ε->ζ->η->ι->κ->Prop}
theorem À(h:∃a b,L a b)(f:∀a b,L a b->g):g:=by obtain⟨a,b,z⟩:=h;exact f a b z
theorem Á(h:p/\q/\r/\s/\t)(f:p->q->r->s->t->g):g:=by obtain⟨z,y,x,w,v⟩:=h;exact f z y x w v
theorem Â(h:∃a,A a/\B a)(f:∀a,A a->B a->g):g:=by obtain⟨a,z,y⟩:=h;exact f a z y
theorem Ã(h:∃a,A a)(f:∀a,A a->g):g:=by obtain⟨a,z⟩:=h;exact f a z
theorem Ä(h:p/\q)(f:p->q->g):g:=by obtain⟨z,y⟩:=h;exact f z y
theorem Å(h:∃a,A a/\B a/\C a)(f:∀a,A a->B a->C a->g):g:=by obtain⟨a,z,y,x⟩:=h;exact f a z y x
theorem Æ(h:∃a,A a/\B a/\∃b,L a b/\M a b)(f:∀a,A a->B a->∀b,L a b->M a b->g):g:=by obtain⟨a,z,y,b,x,w⟩:=h;exact f a z y b x w
theorem Ç(h:p/\∃a b,L a b/\M a b)(f:p->∀a b,L a b->M a b->g):g:=by obtain⟨z,a,b,y,x⟩:=h;exact f z a b y x
theorem È(h:p/\∃a,A a/\B a)(f:p->∀a,A a->B a->g):g:=by obtain⟨z,a,y,x⟩:=h;exact f z a y x
theorem É(h:p/\q/\∃a,A a/\∃b c d,a₄ a b c d/\b₄ a b c d)(f:p->q->∀a,A a->∀b c d,a₄ a b c d->b₄ a b c d->g):g:=by obtain⟨z,y,a,x,b,c,d,w,v⟩:=h;exact f z y a x b c d w v
theorem Ê(h:∃a b c d,a₄ a b c d/\b₄ a b c d)(f:∀a b c d,a₄ a b c d->b₄ a b c d->g):g:=by obtain⟨a,b,c,d,z,y⟩:=h;exact f a b c d z y
theorem Ë(h:∃a b c,a₃ a b c)(f:∀a b c,a₃ a b c->g):g:=by obtain⟨a,b,c,z⟩:=h;exact f a b c z
theorem Ì(h:p/\∃a,A a/\∃b,L a b/\M a b)(f:p->∀a,A a->∀b,L a b->M a b->g):g:=by obtain⟨z,a,y,b,x,w⟩:=h;exact f z a y b x w
theorem Í(h:∃a b,L a b/\M a b/\N a b)(f:∀a b,L a b->M a b->N a b->g):g:=by obtain⟨a,b,z,y,x⟩:=h;exact f a b z y x
theorem Î(h:∃a b,L a b/\M a b)(f:∀a b,L a b->M a b->g):g:=by obtain⟨a,b,z,y⟩:=h;exact f a b z y
theorem Ï(h:∃a b c,a₃ a b c/\b₃ a b c)(f:∀a b c,a₃ a b c->b₃ a b c->g):g:=by obtain⟨a,b,c,z,y⟩:=h;exact f a b c z y
theorem Ð(h:∃a b c,a₃ a b c/\b₃ a b c/\c₃ a b c)(f:∀a b c,a₃ a b c->b₃ a b c->c₃ a b c->g):g:=by obtain⟨a,b,c,z,y,x⟩:=h;exact f a b c z y x
theorem Ñ(h:∃a b,L a b/\M a b/\N a b/\O a b)(f:∀a b,L a b->M a b->N a b->O a b->g):g:=by obtain⟨a,b,z,y,x,w⟩:=h;exact f a b z y x w
theorem Ò(h:p/\q/\r/\s/\t/\u)(f:p->q->r->s->t->u->g):g:=by obtain⟨z,y,x,w,v,u⟩:=h;exact f z y x w v u
theorem Ó(h:∃a,A a/\B a/\C a/\D a)(f:∀a,A a->B a->C a->D a->g):g:=by obtain⟨a,z,y,x,w⟩:=h;exact f a z y x w
theorem Ô(h:p/\q/\r/\s)(f:p->q->r->s->g):g:=by obtain⟨z,y,x,w⟩:=h;exact f z y x w
theorem Õ(h:∃a b,L a b/\M a b/\N a b/\O a b/\P a b)(f:∀a b,L a b->M a b->N a b->O a b->P a b->g):g:=by obtain⟨a,b,z,y,x,w,v⟩:=h;exact f a b z y x w v
theorem Ö(h:∃a b,L a b/\M a b/\∃c,a₃ a b c/\b₃ a b c)(f:∀a b,L a b->M a b->∀c,a₃ a b c->b₃ a b c->g):g:=by obtain⟨a,b,z,y,c,x,w⟩:=h;exact f a b z y c x w
theorem Ø(h:p/\q/\∃a,A a/\B a)(f:p->q->∀a,A a->B a->g):g:=by obtain⟨z,y,a,x,w⟩:=h;exact f z y a x w
theorem Ù(h:∃a,A a/\∃b,L a b)(f:∀a,A a->∀b,L a b->g):g:=by obtain⟨a,z,b,y⟩:=h;exact f a z b y
theorem Ú(h:∃a b c,a₃ a b c/\b₃ a b c/\c₃ a b c/\d₃ a b c/\e₃ a b c)(f:∀a b c,a₃ a b c->b₃ a b c->c₃ a b c->d₃ a b c->e₃ a b c->g):g:=by obtain⟨a,b,c,z,y,x,w,v⟩:=h;exact f a b c z y x w v
theorem Û(h:p/\q/\r/\s/\∃a,A a/\B a/\C a)(f:p->q->r->s->∀a,A a->B a->C a->g):g:=by obtain⟨z,y,x,w,a,v,u,t⟩:=h;exact f z y x w a v u t
theorem Ü(h:∃a,A a/\B a/\C a/\D a/\E a)(f:∀a,A a->B a->C a->D a->E a->g):g:=by obtain⟨a,z,y,x,w,v⟩:=h;exact f a z y x w v
theorem ß(h:∃a b,L a b/\M a b/\∃c d,a₄ a b c d/\b₄ a b c d/\c₄ a b c d)(f:∀a b,L a b->M a b->∀c d,a₄ a b c d->b₄ a b c d->c₄ a b c d->g):g:=by obtain⟨a,b,z,y,c,d,x,w,v⟩:=h;exact f a b z y c d x w v
theorem ë(h:p/\q/\∃a b,L a b/\M a b)(f:p->q->∀a b,L a b->M a b->g):g:=by obtain⟨z,y,a,b,x,w⟩:=h;exact f z y a b x w
theorem ì(h:p/\q/\∃a,A a/\∃b c d,a₄ a b c d/\b₄ a b c d/\c₄ a b c d)(f:p->q->∀a,A a->∀b c d,a₄ a b c d->b₄ a b c d->c₄ a b c d->g):g:=by obtain⟨z,y,a,x,b,c,d,w,v,u⟩:=h;exact f z y a x b c d w v u
theorem í(h:∃a b,L a b/\M a b/\N a b/\O a b/\P a b/\Q a b)(f:∀a b,L a b->M a b->N a b->O a b->P a b->Q a b->g):g:=by obtain⟨a,b,z,y,x,w,v,u⟩:=h;exact f a b z y x w v u
theorem î(h:∃a b,L a b/\M a b/\∃c d e,a₅ a b c d e/\b₅ a b c d e/\c₅ a b c d e/\d₅ a b c d e)(f:∀a b,L a b->M a b->∀c d e,a₅ a b c d e->b₅ a b c d e->c₅ a b c d e->d₅ a b c d e->g):g:=by obtain⟨a,b,z,y,c,d,e,x,w,v,u⟩:=h;exact f a b z y c d e x w v u
theorem ï(h:∃a b c d,a₄ a b c d/\b₄ a b c d/\c₄ a b c d/\d₄ a b c d/\e₄ a b c d/\f₄ a b c d/\g₄ a b c d/\h₄ a b c d)(f:∀a b c d,a₄ a b c d->b₄ a b c d->c₄ a b c d->d₄ a b c d->e₄ a b c d->f₄ a b c d->g₄ a b c d->h₄ a b c d->g):g:=by obtain⟨a,b,c,d,z,y,x,w,v,u,t,s⟩:=h;exact f a b c d z y x w v u t s
theorem ð(h:∃a b c d,a₄ a b c d/\b₄ a b c d/\c₄ a b c d/\d₄ a b c d/\e₄ a b c d)(f:∀a b c d,a₄ a b c d->b₄ a b c d->c₄ a b c d->d₄ a b c d->e₄ a b c d->g):g:=by obtain⟨a,b,c,d,z,y,x,w,v⟩:=h;exact f a b c d z y x w v
theorem ñ(h:p/\q/\r)(f:p->q->r->g):g:=by obtain⟨z,y,x⟩:=h;exact f z y x
theorem ò(h:∃a b c d,a₄ a b c d/\b₄ a b c d/\c₄ a b c d)(f:∀a b c d,a₄ a b c d->b₄ a b c d->c₄ a b c d->g):g:=by obtain⟨a,b,c,d,z,y,x⟩:=h;exact f a b c d z y x
theorem ó(h:p/\∃a b,L a b/\M a b/\N a b)(f:p->∀a b,L a b->M a b->N a b->g):g:=by obtain⟨z,a,b,y,x,w⟩:=h;exact f z a b y x w
theorem ô(h:∃a b c d e i j k l,a₉ a b c d e i j k l/\b₉ a b c d e i j k l/\c₉ a b c d e i j k l)(f:∀a b c d e i j k l,a₉ a b c d e i j k l->b₉ a b c d e i j k l->c₉ a b c d e i j k l->g):g:=by obtain⟨a,b,c,d,e,i,j,k,l,z,y,x⟩:=h;exact f a b c d e i j k l z y x
theorem õ(h:p/\∃a,A a/\B a/\C a)(f:p->∀a,A a->B a->C a->g):g:=by obtain⟨z,a,y,x,w⟩:=h;exact f z a y x w
theorem ö(h:∃a b,L a b/\M a b/\∃c,a₃ a b c/\b₃ a b c/\∃d,a₄ a b c d/\b₄ a b c d)(f:∀a b,L a b->M a b->∀c,a₃ a b c->b₃ a b c->∀d,a₄ a b c d->b₄ a b c d->g):g:=by obtain⟨a,b,z,y,c,x,w,d,v,u⟩:=h;exact f a b z y c x w d v u
theorem ø(h:∃a b c d e,a₅ a b c d e/\b₅ a b c d e/\c₅ a b c d e/\d₅ a b c d e/\e₅ a b c d e/\f₅ a b c d e)(f:∀a b c d e,a₅ a b c d e->b₅ a b c d e->c₅ a b c d e->d₅ a b c d e->e₅ a b c d e->f₅ a b c d e->g):g:=by obtain⟨a,b,c,d,e,z,y,x,w,v,u⟩:=h;exact f a b c d e z y x w v u
theorem ù(h:∃a b c d,a₄ a b c d/\b₄ a b c d/\c₄ a b c d/\d₄ a b c d)(f:∀a b c d,a₄ a b c d->b₄ a b c d->c₄ a b c d->d₄ a b c d->g):g:=by obtain⟨a,b,c,d,z,y,x,w⟩:=h;exact f a b c d z y x w
theorem ú(h:∃a b c d e i,a₆ a b c d e i/\b₆ a b c d e i/\c₆ a b c d e i/\d₆ a b c d e i)(f:∀a b c d e i,a₆ a b c d e i->b₆ a b c d e i->c₆ a b c d e i->d₆ a b c d e i->g):g:=by obtain⟨a,b,c,d,e,i,z,y,x,w⟩:=h;exact f a b c d e i z y x w
theorem û(h:∃a b c d e i,a₆ a b c d e i/\b₆ a b c d e i/\c₆ a b c d e i/\d₆ a b c d e i/\e₆ a b c d e i/\f₆ a b c d e i)(f:∀a b c d e i,a₆ a b c d e i->b₆ a b c d e i->c₆ a b c d e i->d₆ a b c d e i->e₆ a b c d e i->f₆ a b c d e i->g):g:=by obtain⟨a,b,c,d,e,i,z,y,x,w,v,u⟩:=h;exact f a b c d e i z y x w v u
theorem ü(h:∃a b c d,a₄ a b c d/\b₄ a b c d/\c₄ a b c d/\d₄ a b c d/\e₄ a b c d/\f₄ a b c d/\g₄ a b c d)(f:∀a b c d,a₄ a b c d->b₄ a b c d->c₄ a b c d->d₄ a b c d->e₄ a b c d->f₄ a b c d->g₄ a b c d->g):g:=by obtain⟨a,b,c,d,z,y,x,w,v,u,t⟩:=h;exact f a b c d z y x w v u t
theorem ý(h:∃a b c,a₃ a b c/\b₃ a b c/\c₃ a b c/\d₃ a b c)(f:∀a b c,a₃ a b c->b₃ a b c->c₃ a b c->d₃ a b c->g):g:=by obtain⟨a,b,c,z,y,x,w⟩:=h;exact f a b c z y x w
theorem þ(h:∃a b c d,a₄ a b c d/\b₄ a b c d/\c₄ a b c d/\d₄ a b c d/\e₄ a b c d/\f₄ a b c d)(f:∀a b c d,a₄ a b c d->b₄ a b c d->c₄ a b c d->d₄ a b c d->e₄ a b c d->f₄ a b c d->g):g:=by obtain⟨a,b,c,d,z,y,x,w,v,u⟩:=h;exact f a b c d z y x w v u
theorem ÿ(h:∃a,A a/\B a/\∃b,L a b)(f:∀a,A a->B a->∀b,L a b->g):g:=by obtain⟨a,z,y,b,x⟩:=h;exact f a z y b x
theorem Ā(h:∃a b c,a₃ a b c/\b₃ a b c/\c₃ a b c/\d₃ a b c/\e₃ a b c/\f₃ a b c)(f:∀a b c,a₃ a b c->b₃ a b c->c₃ a b c->d₃ a b c->e₃ a b c->f₃ a b c->g):g:=by obtain⟨a,b,c,z,y,x,w,v,u⟩:=h;exact f a b c z y x w v u
theorem ā(h:∃a b c d e i j,a₇ a b c d e i j/\b₇ a b c d e i j)(f:∀a b c d e i j,a₇ a b c d e i j->b₇ a b c d e i j->g):g:=by obtain⟨a,b,c,d,e,i,j,z,y⟩:=h;exact f a b c d e i j z y
theorem Ă(h:∃a b c d e,a₅ a b c d e/\b₅ a b c d e/\c₅ a b c d e/\d₅ a b c d e/\e₅ a b c d e)(f:∀a b c d e,a₅ a b c d e->b₅ a b c d e->c₅ a b c d e->d₅ a b c d e->e₅ a b c d e->g):g:=by obtain⟨a,b,c,d,e,z,y,x,w,v⟩:=h;exact f a b c d e z y x w v
theorem ă(h:p/\∃a,A a/\∃b,L a b/\M a b/\∃c,a₃ a b c/\b₃ a b c)(f:p->∀a,A a->∀b,L a b->M a b->∀c,a₃ a b c->b₃ a b c->g):g:=by obtain⟨z,a,y,b,x,w,c,v,u⟩:=h;exact f z a y b x w c v u
theorem ą(h:∃a b,L a b/\M a b/\N a b/\∃c,a₃ a b c/\b₃ a b c/\c₃ a b c)(f:∀a b,L a b->M a b->N a b->∀c,a₃ a b c->b₃ a b c->c₃ a b c->g):g:=by obtain⟨a,b,z,y,x,c,w,v,u⟩:=h;exact f a b z y x c w v u
theorem Ć(h:p/\∃a b c,a₃ a b c/\b₃ a b c/\c₃ a b c/\d₃ a b c/\e₃ a b c)(f:p->∀a b c,a₃ a b c->b₃ a b c->c₃ a b c->d₃ a b c->e₃ a b c->g):g:=by obtain⟨z,a,b,c,y,x,w,v,u⟩:=h;exact f z a b c y x w v u
theorem ć(h:p/\∃a b c,a₃ a b c/\b₃ a b c)(f:p->∀a b c,a₃ a b c->b₃ a b c->g):g:=by obtain⟨z,a,b,c,y,x⟩:=h;exact f z a b c y x
theorem Ĉ(h:p/\∃a b c,a₃ a b c/\b₃ a b c/\c₃ a b c)(f:p->∀a b c,a₃ a b c->b₃ a b c->c₃ a b c->g):g:=by obtain⟨z,a,b,c,y,x,w⟩:=h;exact f z a b c y x w
theorem ĉ(h:∃a b c d e i j k,a₈ a b c d e i j k/\b₈ a b c d e i j k)(f:∀a b c d e i j k,a₈ a b c d e i j k->b₈ a b c d e i j k->g):g:=by obtain⟨a,b,c,d,e,i,j,k,z,y⟩:=h;exact f a b c d e i j k z y
theorem Ċ(h:∃a b c d e i j k,a₈ a b c d e i j k/\b₈ a b c d e i j k/\c₈ a b c d e i j k/\d₈ a b c d e i j k/\e₈ a b c d e i j k/\f₈ a b c d e i j k/\g₈ a b c d e i j k)(f:∀a b c d e i j k,a₈ a b c d e i j k->b₈ a b c d e i j k->c₈ a b c d e i j k->d₈ a b c d e i j k->e₈ a b c d e i j k->f₈ a b c d e i j k->g₈ a b c d e i j k->g):g:=by obtain⟨a,b,c,d,e,i,j,k,z,y,x,w,v,u,t⟩:=h;exact f a b c d e i j k z y x w v u t
theorem Č(h:∃a b c d e i,a₆ a b c d e i/\b₆ a b c d e i/\c₆ a b c d e i/\d₆ a b c d e i/\e₆ a b c d e i/\f₆ a b c d e i/\g₆ a b c d e i)(f:∀a b c d e i,a₆ a b c d e i->b₆ a b c d e i->c₆ a b c d e i->d₆ a b c d e i->e₆ a b c d e i->f₆ a b c d e i->g₆ a b c d e i->g):g:=by obtain⟨a,b,c,d,e,i,z,y,x,w,v,u,t⟩:=h;exact f a b c d e i z y x w v u t
theorem č(h:∃a b c d e,a₅ a b c d e/\b₅ a b c d e/\c₅ a b c d e)(f:∀a b c d e,a₅ a b c d e->b₅ a b c d e->c₅ a b c d e->g):g:=by obtain⟨a,b,c,d,e,z,y,x⟩:=h;exact f a b c d e z y x
theorem ē(h:∃a b c d,a₄ a b c d)(f:∀a b c d,a₄ a b c d->g):g:=by obtain⟨a,b,c,d,z⟩:=h;exact f a b c d z
theorem Ė(h:∃a b c,a₃ a b c/\b₃ a b c/\c₃ a b c/\d₃ a b c/\e₃ a b c/\f₃ a b c/\g₃ a b c)(f:∀a b c,a₃ a b c->b₃ a b c->c₃ a b c->d₃ a b c->e₃ a b c->f₃ a b c->g₃ a b c->g):g:=by obtain⟨a,b,c,z,y,x,w,v,u,t⟩:=h;exact f a b c z y x w v u t
theorem Ę(h:∃a b c d e,a₅ a b c d e/\b₅ a b c d e/\c₅ a b c d e/\d₅ a b c d e/\e₅ a b c d e/\f₅ a b c d e/\g₅ a b c d e)(f:∀a b c d e,a₅ a b c d e->b₅ a b c d e->c₅ a b c d e->d₅ a b c d e->e₅ a b c d e->f₅ a b c d e->g₅ a b c d e->g):g:=by obtain⟨a,b,c,d,e,z,y,x,w,v,u,t⟩:=h;exact f a b c d e z y x w v u t
theorem ę(h:∃a b c d e i j,a₇ a b c d e i j)(f:∀a b c d e i j,a₇ a b c d e i j->g):g:=by obtain⟨a,b,c,d,e,i,j,z⟩:=h;exact f a b c d e i j z
theorem Ě(h:∃a b c d e i,a₆ a b c d e i)(f:∀a b c d e i,a₆ a b c d e i->g):g:=by obtain⟨a,b,c,d,e,i,z⟩:=h;exact f a b c d e i z
theorem ġ(h:∃a b c d e i j k l,a₉ a b c d e i j k l/\b₉ a b c d e i j k l)(f:∀a b c d e i j k l,a₉ a b c d e i j k l->b₉ a b c d e i j k l->g):g:=by obtain⟨a,b,c,d,e,i,j,k,l,z,y⟩:=h;exact f a b c d e i j k l z y
end
theorem cR{p:Prop}(h:autoParam (p) zzr._auto_1):p:=h
theorem cS{p:Prop}(h:autoParam (p) zzy._auto_1):p:=h
theorem eH{p:Prop}(h:p:=by lia):p:=h
theorem gC{p:Prop}(h:p:=by simp):p:=h
theorem gJ{a b:Nat}(h:autoParam (Nat.ble a b=true) zzz._auto_1):a<=b:=Nat.le_of_ble_eq_true h
theorem gL{α:Sort u}{a:α}:a=a:=rfl
open Option.some renaming inj->c7
open PySem.Str renaming ofString->c9,length->o4,join->af
open PySem renaming compareOp->d6,bootBuiltins->d9,Around->e6,wpAny_field->f6,World->f8,wpAny_truthy_bool->g7,attributeBase->g8,behindInMarks->i0,mem_of_lookup->i3,foldedSetIterable->j1,wpAny_callSpecial?_slot->j2,backTo->j7,binaryOp->j8,wpAny_pyIter_list->k7,wpAny_seqItems->l8,sysModules->m6,wpAny_setField_rec->m7,NameKind->m8,wpAny_passesOwn->m9,wpAny_holding->n6,builtinsNs->o6,wpAny_Call_Name_kw->o7,wpAny_rule->o8,wpAny_getItem_str_slice->q9,rawInt->t4,call_meets->u4,sliceBounds->u8,wpAny_execs_nil->v0,cLine->v7,codeAny->x0,cellsFrom->x9,wpAny_setField->y7,getItem->y8,assignEach->ag,codeAny_mono->ah,holding->ak,typeIs_str->am,letOwnedTupleGo->aq,post_val_or_str->ar,isCodeTable->az,recursionLimit->ba,sizeLine_eq->bb,wpAny_updateSeq_pair->bf,Builtin->bg,wpAny_onRaise->bw,tupleKind_room_in1->bz,wpAny_pyIter_tuple->cf,callerA->cm,concat_meets->cq,standAt->cr,stripHi->cy,getMethod->dh,noFill_tuple_add->dk,pushCells->dm,tupleKind->dq,wpAny_execs_cons->dr,keywordEach->dy,subscripted->dz,wpAny_letGo->ec,Within->ee,wpAny_loadPart'->eg,valueAt->eo,ZipApart->ev,newFunctionEnv->ey,wpAny_call->fb,call->ff,seq_tuple_add->fk,wpAny_attempt->fo,wpAny_comprehension_free->fq,wpAny_newList->ft,wpAny_standAt->fu,DictEntry->fv,IsZip->fx,atKey->fy,lastMarks->fz,noteFrame->gb,call_meetsIn->gh,seqIndex_neg->gl,wpAny_typeOf->gn,codeAny_handlers_test->gq,wpAny_isTrue_Compare1->gu,backToKw->gx,seqIndex_of->ic,length_partsBetween->im,wpAny_handleBy_cons->io,assign->ir,pyIter->ja,pyNext->jb,sliceRange->jd,wpAny_Name->jf,wpAny_load->jg,again->jr,wpAny_Assign_Name->jy,wpAny_assign_Name->jz,wpAny_pyIter_enum->ka,wpAny_sequenceKey->kc
open PySem.Value renaming ref->d7,none->j9,int->o0,str->aa,bool->ck,float->eu,type->fg
open PySem.NameKind renaming cell->e4,free->g6
open True renaming intro->e7
open PySem.Obj renaming mapSeq->e8,data_mapFields->o1,mapFields->t7,isFreed_of_fields->z7,cls_mapFields->gp
open Or renaming inr->f7,inl->g4
open PyProof.Rows renaming wpS_bind->g3,seqObj->i4,envOfC->i7,wpS_pure->i8,slot_tuple_getitem->j4,callWith_type1->l3,reverseSlice'->u7,AllBare->v9,wpS_forRange->x8,arrOf->z8,Keyed->ao,pendingOf->bo,listUpdate_at->bu,get?_update_seq->ef,failedOf->ew,wpS_modify->fc,subscriptTail_builtinR->gm,wpS_mono->ie,entry_tuple_getitem->ij,Subscript_->ip,args_tuple_getitem->iq,setPending->jc,IsTup->jh,wpS_get->kd
open ForInStep renaming yield->h8,done->t8
open False renaming elim->h9
open Ne renaming symm->i5
open Classical renaming choose_spec->j0,choose->av,epsilon_spec->ci,epsilon->ej
open PySem.W renaming mg_none_of->j3,mg_of->y9,OpenLaw->br
open PySem.Builtin.Str renaming occurrences->j6,strKind->l6,glued->u0,strSliceIndices->ax
open PySem.Builtin.SmallTypes renaming nextOf->l0
open List.cons renaming inj->l4
open PySem.StrLaws renaming glued_eq_join->l7,join_length_le->cz
open PySem.Builtin.Slice renaming slicePlaces->l9,sliceAdjust->s0
open PySem.F renaming slot_tuple_iterator_next->n7,slot_zip_next->z9,args_str_split_2->bq,entry_str_split->bx,slot_str_split->cj,args_tuple_iterator_next_1->cx,entry_tuple_iterator_next->dt,args_zip_next_1->ig
open Sum renaming inl->n9,inr->cu
open PySem.PassesOwn renaming never->r8
open ToString renaming toString->t6
open PySem.Builtin.List renaming listTooLong->t9
open PySem.Paired renaming length->ae
open PySem.Builtin.Tuple renaming tupleItemsOf->au
open PySem.Around renaming under->aw,frames_deeper->eh,under_plainId->ei
open Sum.inl renaming inj->bh
open LawfulBEq renaming eq_of_beq->bj
open PySem.Calls renaming Name_function_global->cg,callWith_builtin->ed,evalArgs_plain->er
open PySem.SeqAt.EqAt renaming int_str->du,str_int->dv
open PySem.Code renaming isFrame->ek
open Prod renaming fst->fe
open PySem.Walks renaming list->fh
open PySem.SeqAt renaming readOf->gj,readsAll_map->gk,items_eqAt->iy
open Eq renaming symm->gw
open ForIn renaming forIn->jt
def a8:=@if_neg
def a9:=@decide_eq_true
def b7:=@if_pos
def b8:=@decide_eq_false
def b9:=@absurd
def c6:=@of_decide_eq_true
def c8:=@decide_eq_true_eq
def d8:=@congrArg
def i6:=@or_false
def i9:=@of_decide_eq_false
def j5:=@decide_eq_false_iff_not
def k6:=@decide_eq_decide
def u6:=@if_false
def x6:=@if_true
def ai:=@decide_true
def bi:=@decide_false
def bn:=@getElem?_pos
def cw:=@ne_true_of_eq_false
def dw:=@beq_iff_eq
def ny:=@decide_eq_true_iff
open Option renaming some→wz,none→wy
open Bool renaming true→wx,false→ww
open Nat renaming le_of_ble_eq_true->aB,le_refl->aP,le_trans->bK,lt_of_lt_of_le->cA,ne_of_lt->cU,zero_le->dA,mul_left_comm->dQ,mul_assoc->fE,lt_irrefl->fF,pow_le_pow_right->fH,mul_comm->fZ,mul_lt_mul_of_pos_right->iG,ne_of_gt->iP,le_of_lt->iQ,lt_of_mul_lt_mul_right->kB,le_of_eq->mI,mul_le_mul->nH,lt_succ_self->nN,le_succ->pB,lt_trichotomy->pR,le_max_right->qU,le_max_left->sB,sub_zero->sJ,lt_of_le_of_lt->tH,mul_pos->uF,lt_succ_of_lt->uG,add_mul->uH,gcd_pos_of_pos_right->vG,min_le_right->vO,lt_asymm->wU,min_eq_left->xR,mul_le_mul_right->zU,mod_lt->CO,zero_add->DX,lt_trans->DY,gcd_dvd_right->DZ,min_eq_right->GW,not_lt_zero->HK,div_eq_of_eq_mul_right->MC,mul_div_cancel_left->O1,pow_succ->RI,mul_one->WF,not_lt->aB7,le_succ_of_le->aCn,le_of_not_lt->aF1,le_add_right->aF2,div_le_self->aIg,le_of_dvd->aL8,dvd_trans->aL9,zero_mul->aTl,sub_self->aTm,gcd_comm->aTn,div_zero->aTo,one_mul->aUe,log2_lt->aUf
open List renaming length_map->aC,mem_cons_of_mem->aE,getElem?_eq_some_iff->aJ,getElem?_eq_getElem->aL,mem_cons_self->aM,getElem?_map->aO,mem_cons->aQ,length_append->aR,mem_map->aS,mem_singleton->aU,map_cons->aX,mem_of_getElem?->aZ,length_cons->bD,getElem?_set_ne->bG,length_take->bH,map_map->bJ,size_toArray->bL,mem_append->bM,getElem?_set_self->bO,map_append->cC,mem_append_right->cG,length_filter_le->cH,append_nil->cM,not_mem_nil->cP,lookup_cons->cT,mem_filter->cW,take_add_one->dD,length_drop->dF,getElem?_of_mem->dG,getD_eq_getElem?_getD->dM,sum_cons->dU,mem_of_mem_take->dX,getElem?_append_right->dY,mem_append_left->eG,take_length->eI,getElem?_eq_none->eM,getElem?_append_left->eQ,append_assoc->fC,take_of_length_le->fJ,filter_cons->fQ,range->gA,all_eq_true->gG,length->iT,getElem_mem->iY,map_nil->jC,foldl_cons->jK,find?_cons->jL,map_congr_left->jS,filter_append->jV,getElem?_zip_eq_some->kF,nodup_cons->kI,ext_getElem?->kK,idxOf_lt_length_iff->kO,any_cons->kP,getElem?_range->lF,filterMap_cons->lG,getElem?_replicate->lK,lookup->lX,getElem?_drop->lZ,length_pos_iff->nT,headD_cons->oH,getElem_idxOf->oJ,getElem?_take->oK,find?_eq_none->oM,length_eq_zero_iff->pA,pairwise_map->pI,mem_range->pJ,drop_zero->pK,drop_eq_nil_of_le->pL,length_singleton->qL,mem_of_mem_drop->qV,length_nil->rH,getElem?_eq_none_iff->tJ,drop_eq_getElem_cons->tK,length_range->uC,filter_congr->uD,any_eq_true->vK,filter_map->wV,length_replicate->xS,replicate->yQ,mem_iff_getElem->yS,map_id->yT,take_sublist->DD,set->DE,length_eq_countP_add_countP->DF,foldl_append->DG,countP_cons->EJ,cons_append->EK,take_append_of_le_length->GX,range_succ->G0,of_mem_zip->G1,forIn_cons->G2,countP_map->G3,countP_eq_length_filter->G4,take_left->J6,find?_map->J8,count->J9,pairwise_iff_getElem->MD,getElem?_take_of_lt->MN,all_cons->MO,Pairwise->MP,append_cancel_left->OR,flatten_singleton->O2,countP_le_length->RJ,range'->UH,length_dropLast->UI,reverse_append->WG,mem_map_of_mem->WH,flatten_append->WI,flatMap_append->WJ,zip_cons_cons->WZ,mem_filterMap->W1,filterMap_map->W3,count_eq_zero->W4,flatten_cons->aB8,flatMap_cons->aB9,count_append->aCa,range'_succ->aCo,getElem_inj->aCp,append_inj'->aCq,sum_append->aF3,length_set->aF4,any_append->aF5,take_zero->aIh,tail_cons->aIi,foldl_nil->aIj,map_take->aLw,map_drop->aLx,toArray->aMa,sum_nil->aMb,all_map->aMc,Nodup->aUg,Perm->aW2,map->aXj
open PySem renaming wpAny_bind->aG,wpAny_pure->bB,sizeLine->bN,starEach->bV,Program->cO,wpAny_mono->eN,mainGlobals->iM,wpAny_newObj_type->iV,FuncData->iW,wpAny_call_entry->mG,swapsWith->mH
open PySem.W renaming Frag->aH,mroIn->dS,findIn->eK,kia_one->eO,kitOne->eY,keepIn->gR,exmOne->iL,emptyDict->jG,instObj->kC,kitAny->lD,kitMeta->lW,InstAt->mU,nsIn->mY,clsIn->nM,typeIn->oY,fnOf->oZ,looks_findIn->qK,codeIn->rZ,callWith_K->sA,kitx_list->sR,plainGet->uA,envX->vE,methodCall_KW->vM,nsOkIn->wQ,notCls->wR,lookIn->wS,kitCls->wT,plainGet_of->yC,hasDictIn->BK,codeHdIn->CN,takerIn->DS,kla_obj->DU,Looks->HG,isFn->L9,cellsFrom_some->MA,kitx_tuple->RG,isNs_of_in->RH,plainOver->UD,kitx_dict->UE,handedIn->WD,makesIn->WW,exm_one->WX,CodeHd->aB6,subIn->aCj,mg_of->aCk,WalkO->aCl
open PySem.PyData renaming str->aI,int->bW,eqv->dW,canLayAll0->eA,depthAll->eP,list->fD,tuple->gX,hasDictAll->mN,dict->oG,canLay0->sD,bulkAll->xQ,none->DW,leavesShortAll->OQ,showableAll->UF,strOk->aIf,bool->aLv
open PySem.Heap renaming get?_push_of_some->aK,get?_push_size->bA,lt_size->bC,size_push->fL,SameBut->fX,get?_update_other->gH,get?_update_self->qM,get?_none_of_le->qW,size_update->EL,Ns->aCb,IsTuple->aMd,ExtBut->aTq
open Bool renaming false_ne_true->bT,and_eq_true->dH,eq_iff_iff->gE,false_eq_true->iA,true_and->kQ,or_eq_true->oI,false_and->sS,or_eq_false_iff->yU,false_or->BL,and_false->KA,not_eq_true'->aCc,eq_false_iff->aCd,or_false->aL0,true_or->aMe
open PySem.F renaming plainAttrs_str->bY,plainAttrs_list->cV,type_str_join->cX,slot_str_join->cZ,type_list_append->gS,slot_list_append->gT,type_str_split->lP,slot_str_split->lQ,type_list_index->oA,slot_list_index->oB,plainAttrs_dict->oC,type_tuple_index->tD,slot_tuple_index->tE,plainAttrs_tuple->tF,args_tuple_add_2->tG,entry_tuple_add->uB,slot_tuple_add->vF,slot_dict_pop->vN,type_list_extend->HH,slot_list_extend->HI,slot_dict_values->HJ,slot_dict_items->J2,plain_list_iadd->J5,type_dict_pop->MM
open Option renaming map_eq_some_iff->dB,map_eq_none_iff->lR,filter_some->zY,bind_eq_some_iff->MB,isSome_some->UG,isSome_map->WE,getD_none->WY,map_map->aCm
open Array renaming length_toList->eZ,getElem?_toList->jW,getElem?_eq_some_iff->mZ,getElem?_eq_none->pH,size_append->CP,getElem?_setIfInBounds_ne->DH,size_push->GY,toList_append->UJ,forIn_toList->WK,find?_toList->WL,append_assoc->WM,all_toList->aCe,toList->aL1
open Int renaming natCast_mul->gF,toNat_of_nonneg->iS,ofNat->kL,emod_lt_of_pos->mJ,natCast_add->oN,emod_nonneg->oO,le_refl->pC,toNat_natCast->uI,natCast_ediv->vP,fdiv_eq_ediv_of_nonneg->ME,mul_nonneg->aLy,mul_le_mul->aLz,ofNat_lt->aTp,add_mul->aUh
section
open PySem PySem.Spec PyProof.Rows
namespace SS
structure GS(a0:Array ao)(g:Nat->Nat)(pd:Array (Nat×Nat×Nat))(st:SortSt):Prop where
 size:(z8 st).size=a0.size
 get:∀p,p<a0.size->(z8 st)[p]?=a0[g p]?
 rng:∀p,p<a0.size->g p<a0.size
 kind:kindOf st=oneType'
 fail:ew st=wy
 pend:bo st=pd
def Lx(a:Array ao)(i j:Nat):Prop:=K a i<K a j\/(K a i=K a j/\i<j)
def Sd(a:Array ao)(g:Nat->Nat)(lo b:Nat):Prop:=∀p q,lo<=p->p<q->q<b->Lx a (g p) (g q)
def In(g:Nat->Nat)(lo a:Nat):Prop:=∀p,lo<=p->p<a->lo<=g p/\g p<a
noncomputable def C1(g:Nat->Nat)(i j:Nat):Nat->Nat:=λk=>if i<=k/\k<j then g (i+j-1-k)else g k
noncomputable def oW(g:Nat->Nat)(b a:Nat):Nat->Nat:=λk=>if k=a then g b else if a<k/\k<=b then g (k-1)else g k
section
variable{prog:cO}{w:f8}{A:e6}{E:á->ã->Prop}{s:ã}{d:Array ao}{g:Nat->Nat}{e:Array (Nat×Nat×Nat)}{st:SortSt}
def Q3(b:IntKeys d){i:Nat}(c:i<d.size):∃t q,d[i]?=wz (.int (K d i) t,q):=by
 refine À (b d[i] gC) λn t f=>?_;refine⟨t,d[i].2,?_⟩;have a:d[i]=(.int n t,d[i].2):=Prod.ext f gL;unfold K;rw[(bn _ i c),a]
 rfl
def GS.mirr(h:GS d g e st){i j:Nat}(hj:j<=d.size):GS d (C1 g i j) e (setArr st (mirror (z8 st) i j ((j-i) / 2))) where
 size:=(mirror_size _ _ _ _).trans h.size
 get:=λp hp=>by
  refine(getElem?_mirror_all (by rw[h.size];exact hj) p).trans ?_;unfold C1;split
  ·exact h.get _ eH
  ·exact h.get _ hp
 rng:=λp hp=>by
  unfold C1;split
  ·exact h.rng _ eH
  ·exact h.rng _ hp
 kind:=h.kind
 fail:=h.fail
 pend:=h.pend
def GS.bubb(h:GS d g e st){src ko:Nat}(hs:src<d.size)(hd:ko<=src):GS d (oW g src ko) e (setArr st (bubble (z8 st) src (src-ko))) where
 size:=(bubble_size _ _ _).trans h.size
 get:=λp hp=>by
  refine(getElem?_bubble (by rw[h.size];exact hs) _ eH p).trans ?_;rw[show src-(src-ko)=ko by lia];unfold oW;split
  ·exact h.get _ hs
  ·split
   ·exact h.get _ eH
   ·exact h.get _ hp
 rng:=λp hp=>by
  unfold oW;split
  ·exact h.rng _ hs
  ·split
   ·exact h.rng _ eH
   ·exact h.rng _ hp
 kind:=h.kind
 fail:=h.fail
 pend:=h.pend
def AB{p q:Nat}{Q:Option Bool->SortSt->Prop}(h:GS d g e st)(a:IntKeys d)(b:p<d.size)(c:q<d.size)
  (k:Q (wz (decide (K d (g p)<K d (g q)))) st):wpS (ä prog w) A E s (ltAt' p q) Q st:=by
 refine À (Q3 a (h.rng p b)) λt x f=>?_;refine À (Q3 a (h.rng q c)) λu y i=>?_;exact wpS_ltAt h.kind ((h.get p b).trans f) ((h.get q c).trans i) k
noncomputable def xq(lo a c:Nat):StateT SortSt Sem AscSt:=
 jt [a:c] ((wy,a):AscSt) λ_ z=>do
  let x <- ltAt' (lo+z.snd) (lo+z.snd-1)
  match x with
  |some b=>if b=wx then pure (t8 (wy,z.snd))else pure (h8 (wy,z.snd+1))
  |_=>pure (t8 (wz wy,z.snd))
noncomputable def HU(lo n a:Nat):StateT SortSt Sem (Option Nat):=do
 u7 lo (lo+n)
 let z <- xq lo n a
 match z.fst with
 |some r=>pure r
 |none=>pure (wz z.snd)
noncomputable def Bf(lo n a:Nat):StateT SortSt Sem DescSt:=
 jt [n:a] ((wy,n,0):DescSt) λ_ z=>do
  let x <- ltAt' (lo+z.snd.fst) (lo+z.snd.fst-1)
  match x with
  |some b=>
   if b=wx then
    if z.snd.snd>0 then do
     u7 (lo+z.snd.fst-(z.snd.snd+1)) (lo+z.snd.fst)
     pure (h8 (wy,z.snd.fst+1,0))
    else pure (h8 (wy,z.snd.fst+1,0))
   else do
    let x <- ltAt' (lo+z.snd.fst-1) (lo+z.snd.fst)
    match x with
    |some c=>
     if c=wx then pure (t8 (wy,z.snd.fst,z.snd.snd))
     else pure (h8 (wy,z.snd.fst+1,z.snd.snd+1))
    |_=>pure (t8 (wz wy,z.snd.fst,z.snd.snd))
  |_=>pure (t8 (wz wy,z.snd.fst,z.snd.snd))
noncomputable def NB(lo n a:Nat):StateT SortSt Sem (Option Nat):=do
 liftM (rule "list.sort.descending-run")
 let z <- Bf lo (n+1) a
 match z.fst with
 |some r=>pure r
 |none=>
  if z.snd.snd>0 then do
   u7 (lo+z.snd.fst-(z.snd.snd+1)) (lo+z.snd.fst)
   HU lo z.snd.fst a
  else HU lo z.snd.fst a
def VZ(lo a:Nat):countRun' lo a=(do
  let z <- xq lo 1 a
  match z.fst with
  |some r=>pure r
  |none=>
   if(z.snd==a)=wx then pure (wz z.snd)
   else if z.snd>1 then do
    let x <- ltAt' lo (lo+z.snd-1)
    match x with
    |some b=>if b=wx then pure (wz z.snd)else do
      u7 lo (lo+z.snd)
      NB lo z.snd a
    |_=>pure wy
   else NB lo z.snd a):=by
 have j:∀(n:Nat),HU lo n a=(do
   u7 lo (lo+n)
   let z <- xq lo n a
   match z with
   | (wz r,_)=>pure r
   | (wy,m)=>pure (wz m)):=λn=>by
  unfold HU;grind
 rw[countRun'_eq];unfold NB;simp only[j];congr 1;funext z;obtain⟨r,n⟩:=z
 cases r with
 |some r=>rfl
 |none=>
  dsimp only;split
  ·rfl
  ·split
   ·congr 1;funext x
    cases x with
    |none=>rfl
    |some b=>
     dsimp only;split
     ·rfl
     ·congr 1;funext _;congr 1;funext _;congr 1;congr 1;funext y;obtain⟨f,h,i⟩:=y
      cases f with
      |some f=>rfl
      |none=>
       dsimp only;split
       ·congr 1;funext _;congr 1;funext _;congr 1;grind
       ·congr 1;funext _;congr 1;grind
   ·congr 1;funext _;congr 1;congr 1;funext y;obtain⟨f,h,i⟩:=y
    cases f with
    |some f=>rfl
    |none=>
     dsimp only;split
     ·congr 1;funext _;congr 1;funext _;congr 1;grind
     ·congr 1;funext _;congr 1;grind
end
section
variable{prog:cO}{w:f8}{A:e6}{E:á->ã->Prop}{s:ã}{f:Array ao}{g g0:Nat->Nat}{t:Array (Nat×Nat×Nat)}{st:SortSt}{lo n o:Nat}
structure Rn(f:Array ao)(g0 g:Nat->Nat)(lo m:Nat):Prop where
 sd:Sd f g lo (lo+m)
 inn:In g lo (lo+m)
 bef:∀p,p<lo->g p=g0 p
 aft:∀p,lo+m<=p->g p=p
def Rn.snoc{m:Nat}(r:Rn f g0 g lo m)(h1:1<=m)(h:¬K f (g (lo+m))<K f (g (lo+m-1))):Rn f g0 g lo (m+1) where
 sd:=λp q h2 h3 h4=>by
  by_cases hq:q<lo+m
  ·exact r.sd p q h2 h3 hq
  ·have e:q=lo+m:=by lia
   have e2:=r.aft q eH;have i1:=(r.inn p h2 eH).2;rw[<- e,e2]at h;unfold Lx;rw[e2]
   have:K f (g p)<=K f (g (q-1)):=by
    by_cases hp:p=q-1
    ·lia
    ·rcases r.sd p (q-1) h2 eH eH with z | z
     ·lia
     ·lia
   lia
 inn:=λp h2 h3=>by
  by_cases hp:p<lo+m
  ·have:=r.inn p h2 hp;lia
  ·have:=r.aft p eH;lia
 bef:=r.bef
 aft:=λp h2=>r.aft p eH
def MS{a:Nat}{Q:AscSt->SortSt->Prop}(j:IntKeys f)(r:lo+o<=f.size)(q:1<=a)(e:a<=o)(k:GS f g t st)(l:Rn f g0 g lo a)
  (h:∀m,a<=m->m<=o->Rn f g0 g lo m->(m=o\/K f (g (lo+m))<K f (g (lo+m-1)))->Q (wy,m) st):wpS (ä prog w) A E s (xq lo a o) Q st:=by
 unfold xq;refine x8 (I:=λx c z=>z=st/\c=(wy,x)/\Rn f g0 g lo x) ?step ?fin ⟨gL,gL,l⟩
 case fin=>
  rintro c z ⟨rfl,rfl,b⟩;rw[show max a o=o by lia]at b |-
  exact h o e (aP _) b (.inl gL)
 case step=>
  rintro x c z i p ⟨rfl,rfl,b⟩;dsimp only;refine g3 (AB k j eH eH ?_);by_cases d:K f (g (lo+x))<K f (g (lo+x-1))
  ·simp only[d,ai,x6];exact i8 (h x i eH b (.inr d))
  ·simp only[d,bi,iA,u6];exact i8 ⟨gL,gL,b.snoc eH d⟩
structure Dn(f:Array ao)(g0 g:Nat->Nat)(lo x ne:Nat):Prop where
 le:ne+1<=x
 fall:∀p q,lo<=p->p<q->q<lo+(x-(ne+1))->Lx f (g q) (g p)
 inn:In g lo (lo+(x-(ne+1)))
 low:∀p,lo<=p->p<lo+(x-(ne+1))->K f (lo+x-1)<K f (g p)
 alike:∀p,lo+(x-(ne+1))<=p->p<lo+x->K f p=K f (lo+x-1)
 bef:∀p,p<lo->g p=g0 p
 aft:∀p,lo+(x-(ne+1))<=p->g p=p
def Dn.turn{x ne:Nat}(d:Dn f g0 g lo x ne) :
  (∀p q,lo<=p->p<q->q<lo+x->Lx f (C1 g (lo+x-(ne+1)) (lo+x) q) (C1 g (lo+x-(ne+1)) (lo+x) p))/\In (C1 g (lo+x-(ne+1)) (lo+x)) lo (lo+x) /\
  (∀p,lo<=p->p<lo+x->K f (lo+x-1)<=K f (C1 g (lo+x-(ne+1)) (lo+x) p))/\(∀p,p<lo->C1 g (lo+x-(ne+1)) (lo+x) p=g0 p)/\∀p,lo+x<=p->C1 g (lo+x-(ne+1)) (lo+x) p=p:=by
 have l:=d.le;have k:lo+x-(ne+1)=lo+(x-(ne+1)):=by lia
 have up:∀p,lo+(x-(ne+1))<=p->p<lo+x->C1 g (lo+x-(ne+1)) (lo+x) p=lo+(x-(ne+1))+(lo+x)-1-p:=λp a c=>by
  unfold C1;rw[b7 eH,d.aft _ eH];lia
 have dn:∀p,p<lo+(x-(ne+1))->C1 g (lo+x-(ne+1)) (lo+x) p=g p:=λp a=>by
  unfold C1;rw[a8 eH]
 have j:∀p,lo+x<=p->C1 g (lo+x-(ne+1)) (lo+x) p=p:=λp a=>by
  unfold C1;rw[a8 eH,d.aft _ eH]
 refine⟨λp q a c h=>?_,λp a c=>?_,λp a c=>?_,λp a=>?_,j⟩
 ·by_cases e:q<lo+(x-(ne+1))
  ·rw[dn q e,dn p eH];exact d.fall p q a c e
  ·rw[up q eH h];have i:=d.alike (lo+(x-(ne+1))+(lo+x)-1-q) eH eH;by_cases b:p<lo+(x-(ne+1))
   ·rw[dn p b];have:=d.low p a b
    left;lia
   ·rw[up p eH eH];have m:=d.alike (lo+(x-(ne+1))+(lo+x)-1-p) eH eH
    right;lia
 ·by_cases b:p<lo+(x-(ne+1))
  ·rw[dn p b];have:=d.inn p a b;lia
  ·rw[up p eH c];lia
 ·by_cases b:p<lo+(x-(ne+1))
  ·rw[dn p b];have:=d.low p a b;lia
  ·rw[up p eH c];have i:=d.alike (lo+(x-(ne+1))+(lo+x)-1-p) eH eH;lia
 ·rw[dn p eH];exact d.bef p a
def S0{x:Nat}(a:1<=x):C1 g (lo+x-(0+1)) (lo+x)=g:=by
 funext k;unfold C1;split
 ·congr 1;lia
 ·rfl
def AA{i j:Nat}{Q:Unit->SortSt->Prop}(h:Q () (setArr st (mirror (z8 st) i j ((j-i) / 2)))):wpS (ä prog w) A E s (u7 i j) Q st:=by
 rw[reverseSlice'_eq];exact fc h
def UK{Q:DescSt->SortSt->Prop}(u:IntKeys f)(S:lo+o<=f.size)(R:1<=n)(q:n<=o)(C:GS f g t st)(H:Dn f g0 g lo n 0)
  (h:∀m ne d i,GS f d t i->n<=m->m<=o->Dn f g0 d lo m ne->Q (wy,m,ne) i):wpS (ä prog w) A E s (Bf lo n o) Q st:=by
 unfold Bf;refine x8 (I:=λx c z=>∃ne d,c=(wy,x,ne)/\GS f d t z/\Dn f g0 d lo x ne) ?step ?fin ⟨0,g,gL,C,H⟩
 case fin=>
  grind
 case step=>
  rintro x c z l J ⟨ne,d,rfl,a,hd⟩;dsimp only;have F:=hd.le;have ex:=hd.aft (lo+x) eH;have r:=hd.aft (lo+x-1) eH;refine g3 (AB a u eH eH ?_);rw[ex,r];by_cases y:K f (lo+x)<K f (lo+x-1)
  ·simp only[y,ai,x6];refine Á hd.turn λL M N O P=>?_
   have nx:Dn f g0 (C1 d (lo+x-(ne+1)) (lo+x)) lo (x+1) 0:=by
    have b:x+1-(0+1)=x:=by lia
    refine⟨eH,?_,?_,?_,?_,O,?_⟩
    ·grind
    ·lia
    ·grind
    ·grind
    ·grind
   by_cases e:ne>0
   ·rw[b7 e];exact g3 (AA (i8 ⟨0,_,gL,a.mirr eH,nx⟩))
   ·rw[a8 e];have B:ne=0:=by lia
    subst B;rw[S0 eH]at nx;exact i8 ⟨0,_,gL,a,nx⟩
  ·simp only[y,bi,iA,u6];refine g3 (AB a u eH eH ?_);rw[ex,r];by_cases v:K f (lo+x-1)<K f (lo+x)
   ·simp only[v,ai,x6];exact i8 (h x ne d z a l eH hd)
   ·simp only[v,bi,iA,u6];have b:x+1-(ne+1+1)=x-(ne+1):=by lia
    have el:lo+(x+1)-1=lo+x:=by lia
    have eq:K f (lo+x)=K f (lo+x-1):=by lia
    refine i8 ⟨ne+1,d,gL,a,⟨eH,?_,?_,?_,?_,hd.bef,?_⟩⟩
    ·rw[b];exact hd.fall
    ·rw[b];exact hd.inn
    ·rw[b,el,eq];exact hd.low
    ·rw[b,el];intro p j k;by_cases G:p=lo+x
     ·rw[G]
     ·rw[eq];exact hd.alike p j eH
    ·rw[b];exact hd.aft
def HL{Q:Option Nat->SortSt->Prop}(z:IntKeys f)(F:lo+o<=f.size)(B:1<=n)(k:n<=o)(C:GS f g t st)
  (f1:∀p q,lo<=p->p<q->q<lo+n->Lx f (g q) (g p)) (v:In g lo (lo+n)) (x:∀p,p<lo->g p=g0 p) (y:∀p,lo+n<=p->g p=p)
  (h:∀m l e,GS f l t e->1<=m->m<=o->Rn f g0 l lo m->Q (wz m) e):wpS (ä prog w) A E s (HU lo n o) Q st:=by
 unfold HU;refine g3 (AA ?_);have d:=C.mirr (i:=lo) (j:=lo+n) eH;have up:∀p,lo<=p->p<lo+n->C1 g lo (lo+n) p=g (lo+(lo+n)-1-p):=λp a b=>by unfold C1;rw[b7 ⟨a,b⟩]
 have u:∀p,(p<lo\/lo+n<=p)->C1 g lo (lo+n) p=g p:=λp a=>by unfold C1;rw[a8 eH]
 refine g3 (MS z F B k d (g0:=g0) ⟨λp q a b c=>?_,λp a b=>?_,λp a=>?_,λp a=>?_⟩ λm H G r _=>i8 (h m _ _ d eH G r))
 ·rw[up p a eH,up q eH c];exact f1 _ _ eH eH eH
 ·rw[up p a b];exact v _ eH eH
 ·rw[u p (.inl a)];exact x p a
 ·rw[u p (.inr a)];exact y p a
def HM{Q:Option Nat->SortSt->Prop}(e:IntKeys f)(i:lo+o<=f.size)(j:n+1<=o)(v:GS f g t st)(x:Dn f g0 g lo (n+1) 0)
  (h:∀m d a,GS f d t a->1<=m->m<=o->Rn f g0 d lo m->Q (wz m) a):wpS (ä prog w) A E s (NB lo n o) Q st:=by
 unfold NB;refine g3 (wpS_lift (o8 ⟨gL,?_⟩));refine g3 (UK e i eH j v x λm ne d a b y r hd=>?_);dsimp only;refine Á hd.turn λk l z p q=>?_;by_cases c:ne>0
 ·rw[b7 c];exact g3 (AA (HL e i eH r (b.mirr eH) k l p q h))
 ·rw[a8 c];have u:ne=0:=by lia
  subst u;rw[S0 eH]at k l p q;exact HL e i eH r b k l p q h
def O4{Q:Option Nat->SortSt->Prop}(x:IntKeys f)(y:lo+o<=f.size)(I:1<=o)(k:GS f g t st)(bef:∀p,p<lo->g p=g0 p)(aft:∀p,lo<=p->g p=p)
  (h:∀m C v,GS f C t v->1<=m->m<=o->Rn f g0 C lo m->Q (wz m) v):wpS (ä prog w) A E s (countRun' lo o) Q st:=by
 rw[VZ];refine g3 (MS x y (aP 1) I k (g0:=g0) ⟨λp q a b c=>by lia,λp a b=>by rw[aft p a];lia,bef,λp a=>aft p eH⟩ λm F G r B=>?_);dsimp only;by_cases j:m=o
 ·rw[b7 (by simpa using j)];exact i8 (h m g st k F G r)
 ·rw[a8 (by simpa using j)];have i:=B.resolve_left j;rw[aft _ eH,aft (lo+m-1) eH]at i;by_cases u:m>1
  ·rw[b7 u];refine g3 (AB k x eH eH ?_);rw[aft lo eH,aft (lo+m-1) eH];by_cases d:K f lo<K f (lo+m-1)
   ·simp only[d,ai,x6];exact i8 (h m g st k F G r)
   ·simp only[d,bi,iA,u6]
    have le:∀p q,lo<=p->p<=q->q<lo+m->K f p<=K f q:=λp q a b c=>by
     by_cases e:p=q
     ·rw[e];exact pC _
     ·have:=r.sd p q a eH c;rw[aft p a,aft q eH]at this;rcases this with z | z<;>lia
    have all:∀p,lo<=p->p<lo+m->K f p=K f (lo+m-1):=λp a b=>by
     have J:=le lo p eH a b;have L:=le p (lo+m-1) a eH eH;lia
    have l:m+1-(0+1)=m:=by lia
    have el:lo+(m+1)-1=lo+m:=by lia
    have up:∀p,lo<=p->p<lo+m->C1 g lo (lo+m) p=lo+(lo+m)-1-p:=λp a b=>by unfold C1;rw[b7 ⟨a,b⟩,aft _ eH]
    refine g3 (AA (HM x y eH (k.mirr eH) (g0:=g0) ⟨eH,?_,?_,?_,?_,?_,?_⟩ h))
    ·rw[l];intro p q a b c;rw[up p a eH,up q eH c];have J:=all (lo+(lo+m)-1-p) eH eH;have L:=all (lo+(lo+m)-1-q) eH eH
     right;lia
    ·rw[l];intro p a b;rw[up p a b];lia
    ·rw[l,el];intro p a b;rw[up p a b,all (lo+(lo+m)-1-p) eH eH];exact i
    ·rw[l];intro p a b;congr 1;lia
    ·intro p a;unfold C1;rw[a8 eH];exact bef p a
    ·rw[l];intro p a;unfold C1;rw[a8 eH];exact aft p eH
  ·rw[a8 u];have H:m=1:=by lia
   subst H;refine HM x y eH k (g0:=g0) ⟨eH,λp q a b c=>by lia,λp a b=>by rw[aft p a];lia,λp a b=>?_,λp a b=>by congr 1;lia,bef,λp a=>aft p eH⟩ h;rw[aft p a];have:p=lo:=by lia
   subst this;exact i
def XC{ok:Nat}{Q:Bool->SortSt->Prop}(R:IntKeys f)(hn:lo+n<=f.size)(hok:ok<=n)(h1:1<=ok)(S:GS f g t st)(Y:Rn f g0 g lo ok)
  (h:∀d F,GS f d t F->Rn f g0 d lo n->Q wx F):wpS (ä prog w) A E s (binarySort' lo n ok) Q st:=by
 rw[binarySort'_eq]
 refine g3 (ie (x8 (I:=λk c z=>c=(wy,())/\∃d,GS f d t z/\Rn f g0 d lo (min k n))
  (Q:=λc z=>c=(wy,())/\∃d,GS f d t z/\Rn f g0 d lo n) ?step ?fin ?init) ?post)
 case post=>
  rintro c z ⟨rfl,d,u,m⟩;exact i8 (h d z u m)
 case init=>
  refine⟨gL,g,S,?_⟩;rw[show min (max ok 1) n=ok by lia];exact Y
 case fin=>
  rintro c z ⟨U,d,u,m⟩;rw[show min (max (max ok 1) n) n=n by lia]at m;exact⟨U,d,u,m⟩
 case step=>
  rintro k c z T X ⟨rfl,d,u,m⟩;rw[show min k n=k by lia]at m;have N:=m.aft (lo+k) (aP _)
  refine g3 (ie (x8 (I:=λx c y=>y=z/\∃l r,c=(wy,l,r)/\l<=r/\r<=k/\r-l<=k-x /\
    (∀i,i<l->K f (d (lo+i))<=K f (lo+k))/\∀i,r<=i->i<k->K f (lo+k)<K f (d (lo+i)))
   (Q:=λc y=>y=z/\∃l r,c=(wy,l,r)/\l<=k/\(∀i,i<l->K f (d (lo+i))<=K f (lo+k))/\∀i,l<=i->i<k->K f (lo+k)<K f (d (lo+i))) ?istep ?ifin ?iinit) ?ipost)
  case iinit=>exact⟨gL,0,k,gL,eH,eH,eH,λi hi=>by lia,λi a b=>by lia⟩
  case ifin=>
   rintro c y ⟨rfl,l,r,rfl,O,a2,P,a4,B⟩;have:l=r:=by lia
   subst this;exact⟨gL,l,l,gL,a2,a4,B⟩
  case istep=>
   rintro x c y _ Z ⟨rfl,l,r,rfl,O,a2,P,a4,B⟩;dsimp only
   have le:∀i j,i<=j->j<k->K f (d (lo+i))<=K f (d (lo+j)):=λi j a b=>by
    by_cases e:i=j
    ·rw[e];exact pC _
    ·rcases m.sd (lo+i) (lo+j) eH eH eH with q | q<;>lia
   by_cases C:l>=r
   ·rw[b7 C];have:l=r:=by lia
    subst this;exact i8 ⟨gL,l,l,gL,a2,a4,B⟩
   ·rw[a8 C];refine g3 (AB u R eH eH ?_);rw[N];by_cases L:K f (lo+k)<K f (d (lo+(l+r) / 2))
    ·simp only[L,ai,x6];refine i8 ⟨gL,l,(l+r) / 2,gL,eH,eH,eH,a4,λi v J=>?_⟩;exact Int.lt_of_lt_of_le L (le _ _ v J)
    ·simp only[L,bi,iA,u6];refine i8 ⟨gL,(l+r) / 2+1,r,gL,eH,eH,eH,λi v=>?_,B⟩;have:=le i ((l+r) / 2) eH eH;lia
  case ipost=>
   rintro c y ⟨rfl,l,r,rfl,a2,a4,B⟩;show wpS _ _ _ _ (do moveDown' (lo+k) (lo+l);pure (h8 (wy,()))) _ _;rw[moveDown'_eq];refine g3 (fc (i8 ⟨gL,_,u.bubb eH eH,?_⟩));rw[show min (k+1) n=k+1 by lia];have M:oW d (lo+k) (lo+l) (lo+l)=lo+k:=by unfold oW;rw[b7 gL,N]
   have G:∀p,lo+l<p->p<=lo+k->oW d (lo+k) (lo+l) p=d (p-1):=λp a b=>by unfold oW;rw[a8 eH,b7 ⟨a,b⟩]
   have H:∀p,(p<lo+l\/lo+k<p)->oW d (lo+k) (lo+l) p=d p:=λp a=>by unfold oW;rw[a8 eH,a8 eH]
   have lw:∀p,lo<=p->p<lo+l->K f (d p)<=K f (lo+k):=λp a b=>by
    have:=a4 (p-lo) eH;rwa [show lo+(p-lo)=p by lia]at this
   have W:∀p,lo+l<=p->p<lo+k->K f (lo+k)<K f (d p):=λp a b=>by
    have:=B (p-lo) eH eH;rwa [show lo+(p-lo)=p by lia]at this
   refine⟨λp q v J b3=>?_,λp v J=>?_,λp v=>?_,λp v=>?_⟩
   ·rcases pR p (lo+l)with c1 | c1 | c1
    ·rw[H p (.inl c1)];rcases pR q (lo+l)with c2 | c2 | c2
     ·rw[H q (.inl c2)];exact m.sd p q v J eH
     ·rw[c2,M];have:=lw p v c1;have:=(m.inn p v eH).2;unfold Lx;lia
     ·rw[G q c2 eH];exact m.sd p (q-1) v eH eH
    ·rw[c1,M,G q eH eH]
     left;exact W _ eH eH
    ·rw[G p c1 eH,G q eH eH];exact m.sd _ _ eH eH eH
   ·rcases pR p (lo+l)with c1 | c1 | c1
    ·rw[H p (.inl c1)];have:=m.inn p v eH;lia
    ·rw[c1,M];lia
    ·rw[G p c1 eH];have:=m.inn (p-1) eH eH;lia
   ·rw[H p (.inl eH)];exact m.bef p v
   ·rw[H p (.inr eH)];exact m.aft p eH
end
section
variable{a:Type}{le:a->a->Bool}
noncomputable abbrev mg(le:a->a->Bool)(b c:List a):List a:=List.merge b c le
end
section
def FX{a:Array ao}(c:IntKeys a){i:Nat}(b:i<a.size):∃t,a[i].1=.int (K a i) t:=by
 refine À (Q3 c b) λt q e=>?_;grind
end
structure Two(a b:Array ao):Prop where
 ia:IntKeys a
 ib:IntKeys b
 sa:∀i j,i<=j->j<a.size->K a i<=K a j
 sb:∀i j,i<=j->j<b.size->K b i<=K b j
 na:0<a.size
 nb:0<b.size
 last:∀j,j<b.size->K b j<K a (a.size-1)
 first:∀i,i<a.size->K b 0<K a i
section
variable{a:Array ao}
def C6{i:Nat}(h:i<a.size):a.toList.drop i=a[i]::a.toList.drop (i+1):=by
 rw[tK (by simpa using h)];simp
end
structure MK(n:Nat)(ky:Nat->Int)(J:List Nat):Prop where
 ord:J.Pairwise λi j=>ky i<ky j\/(ky i=ky j/\i<j)
 lt:∀i∈J,i<n
 len:J.length=n
noncomputable def fa(a:Array ao)(i:Nat):ao:=(a[i]?).getD (.none,.none)
section
variable{prog:cO}{w:f8}{A:e6}{E:á->ã->Prop}{s:ã}{b:Array ao}{g:Nat->Nat}{d:Array (Nat×Nat×Nat)}{st:SortSt}
def GS.list(h:GS b g d st):(z8 st).toList=((gA b.size).map g).map (fa b):=by
 apply kK;intro q;rw[jW,bJ,aO];by_cases a:q<b.size
 ·rw[h.get q a,lF a];show _=wz (fa b (g q));unfold fa;rw[bn b _ (h.rng q a)];rfl
 ·rw[eM (by simp;lia),pH (by rw[h.size];lia)];rfl
def aDe(hB:GS b g d st)(hs:Sd b g 0 b.size):MK b.size (K b) ((gA b.size).map g) where
 ord:=by
  rw[MD];intro i j hi hj qy;simp only[aC,uC]at hi hj;simp only[List.getElem_map,List.getElem_range];exact hs i j (dA _) qy hj
 lt:=λi hi=>by
  refine Â (aS.mp hi) λp hp z=>?_;subst z;exact hB.rng p (pJ.mp hp)
 len:=by simp
def VH{n:Nat}(h:n<64)(a:2<=n):minRun' n n 0=n:=by
 obtain⟨f,rfl⟩:∃f,n=f+2:=⟨n-2,eH⟩;rw[show f+2=(f+1)+1 by lia,minRun'_succ,b7 eH]
def Bv(b:Array ao)(st:SortSt):Prop:=∃g,GS b g #[(0,b.size,0)] st/\Sd b g 0 b.size
def GS.setP(h:GS b g d st)(q:Array (Nat×Nat×Nat)):GS b g q (jc st q):=⟨h.size,h.get,h.rng,h.kind,h.fail,gL⟩
def XB{Q:Unit->SortSt->Prop}(q:IntKeys b)(t:GS b (λp=>p) #[] st)(L:2<=b.size)(l:b.size<64)
  (h:∀j J,ew j=wy->(z8 j).toList=J.map (fa b)->MK b.size (K b) J->Q () j):wpS (ä prog w) A E s sortRuns' Q st:=by
 have M:=VH l L;rw[sortRuns'_eq];refine g3 (kd ?_);simp only[t.size]
 generalize minRun' b.size b.size 0=mn at M
 refine g3 (ie (x8
  (I:=λx c z=>(x=0/\c=(wy,0)/\GS b (λp=>p) #[] z)\/(1<=x/\c=(wy,b.size)/\Bv b z))
  (Q:=λc z=>c=(wy,b.size)/\Bv b z) ?step ?fin (.inl ⟨gL,gL,t⟩)) ?post)
 case fin=>
  rintro c z (⟨u,_,_⟩ | ⟨_,hc,n⟩)
  ·lia
  ·exact⟨hc,n⟩
 case step=>
  rintro x c z _ u (⟨rfl,rfl,hB'⟩ | ⟨x1,rfl,n⟩)
  ·rw[a8 eH];simp only[sJ,DX]
   have next:∀(m:Nat)(k:Nat->Nat)(i:SortSt),GS b k #[] i->m=b.size->Rn b (λp=>p) k 0 m ->
     (1=0/\((wy,m):Option Unit×Nat)=(wy,0)/\GS b (λp=>p) #[] (jc i ((bo i).push (0,m,0)))) \/
     (1<=1/\((wy,m):Option Unit×Nat)=(wy,b.size)/\Bv b (jc i ((bo i).push (0,m,0)))):=λm k i f e r=>by
    have G:=f.setP #[(0,m,0)];rw[show(bo i).push (0,m,0)=#[(0,m,0)] by rw[f.pend];rfl];subst e;refine .inr ⟨eH,gL,k,G,?_⟩;have:=r.sd
    rwa [DX]at this
   refine g3 (O4 q eH eH hB' (λp a=>rfl) (λp a=>rfl) λm k i f v O r=>?_);dsimp only;by_cases o:m<mn
   ·rw[b7 o];refine g3 (wpS_lift (o8 ⟨gL,?_⟩));refine g3 (XC q eH eH v f r λH z2 c1 N=>?_);refine g3 (kd ?_);rw[show(bo z2).back?=wy by rw[c1.pend];rfl];exact g3 (fc (i8 (next _ H z2 c1 eH N)))
   ·rw[a8 o];refine g3 (kd ?_);rw[show(bo i).back?=wy by rw[f.pend];rfl];exact g3 (fc (i8 (next _ k i f eH r)))
  ·rw[b7 (aP _)];exact i8 ⟨gL,n⟩
 case post=>
  rintro c z ⟨rfl,n⟩
  refine g3 (ie (x8 (I:=λx c y=>c=(wy,())/\x=0/\y=z)
   (Q:=λc y=>c=(wy,())/\ew y=wy/\∃J,(z8 y).toList=J.map (fa b)/\MK b.size (K b) J) ?_ ?_ ⟨gL,gL,gL⟩) ?_)
  ·rintro x c y _ _ ⟨rfl,rfl,rfl⟩;refine g3 (kd ?_);refine Â n λg f sd=>?_;rw[b7 (by rw[f.pend];exact aP 1)];exact i8 ⟨gL,f.fail,_,f.list,aDe f sd⟩
  ·rintro c y ⟨rfl,u,_⟩;lia
  ·rintro c y ⟨rfl,B,J,C,F⟩;exact i8 (h y J B C F)
end
end SS
set_option maxHeartbeats 4000000
namespace SS
section
variable{prog:cO}{w:f8}{A:e6}{E:á->ã->Prop}{s:ã}{a m f:à}{vs:List á}{g:List Int}{P:PySem.Fin->ã->Prop}{d:ã->Prop}{lo:Nat}
structure WA(d:ã->Prop)(lo:Nat):Prop where
 up:∀(s':ã)(x:à)h'(tk:Nat),d s'->lo<=x->fX x s'.heap h'->d { s' with heap:=h',toks:=tk }
 push:∀(s':ã)(o:Obj),d s'->d { s' with heap:=s'.heap.push o }
def lE(prog:cO)(w:f8)(A:e6)(d:ã->Prop)(lo:Nat)(f:à)(vs:List á)(g:List Int):Prop:=∀(i:Nat)(v:á)(k:Int)(c:ã),vs[i]?=wz v->g[i]?=wz k->d c ->
 å (ä prog w) A (call (.ref f) [v]) (λu e=>∃t,u=.int k t/\d e/\∀b o,lo<=b->c.heap.get? b=wz o->e.heap.get? b=wz o) (λ_ _=>False) c
def W7{keys:Array á}(c:IntsAre keys.toList g)(n:g.length=vs.length):(keys.zip vs.toArray).size=vs.length/\∀i,i<vs.length->K (keys.zip vs.toArray) i=g.getD i 0/\(fa (keys.zip vs.toArray) i).2=vs.getD i .none:=by
 have j:keys.size=vs.length:=by have:=c.length;rw[eZ]at this;lia
 have l:(keys.zip vs.toArray).size=vs.length:=by rw[Array.size_zip,j,bL,Nat.min_self]
 refine⟨l,λi b=>?_⟩;refine Ã (c.get i (g[i]' eH) (aL eH)) λt h=>?_;rw[jW]at h;have k:vs.toArray[i]?=wz vs[i]:=by simp[b]
 have e:(keys.zip vs.toArray)[i]?=wz (.int (g[i]' eH) t,vs[i]):=by
  rw[Array.getElem?_zip_eq_some];exact⟨h,k⟩
 constructor
 ·unfold K;rw[e];rw[dM,aL eH];rfl
 ·unfold fa;rw[e,dM,aL b];rfl
def MK.congr{n:Nat}{k1 k2:Nat->Int}(h:MK n k1 J)(e:∀i,i<n->k1 i=k2 i):MK n k2 J where
 ord:=h.ord.imp_of_mem λ{i j} hi hj q=>by rw[<- e i (h.lt i hi),<- e j (h.lt j hj)];exact q
 lt:=h.lt
 len:=h.len
def RX{st:SortSt}{keys:Array á}{e p:Nat}{J:List Nat}(T:WA d lo)(C:d s)(ok:s.heap.get? m=wz (i4 "list" keys e))(B:s.heap.get? a=wz (i4 "list" #[] p))(n:m≠a)(z:lo<=m)(y:lo<=a)
  (o:keys.size<=bN) (q:(z8 st).toList.map (·.2)=J.map λi=>vs.getD i .none) (v:J.length<=bN) (u:ew st=wy)
  (h:∀k t out c,d { s with heap:=k,toks:=t }->k.get? a=wz (i4 "list" out c)->out.toList=(J.map λi=>vs.getD i .none)->P (.done (.ret .none)) { s with heap:=k,toks:=t }) :
  å (ä prog w) A (ksk_tail a ww p (.ref m) st) P E s:=by
 have r:=fX.update s.heap m (e8 λ_=>(#[]:Array á));have b:=(r.2 a n.symm).trans B;obtain⟨j,l⟩:∃j,((s.heap.update m (e8 λ_=>(#[]:Array á))).update a (e8 λ_=>(z8 st).map (·.2))).get? a=wz (i4 "list" ((z8 st).map (·.2)) j):=⟨_,ef b λ_=>(z8 st).map (·.2)⟩
 have x:((z8 st).map (·.2)).size=J.length:=by
  have:=d8 iT q;simpa using this
 refine aG (bu ok gL ?_ o (dA _));refine aG (ec ?_);refine aG (seqEpoch_at b gL ?_);refine aG (bu b gL ?_ (dA _) (by lia));rw[u];simp only[bne_self_eq_false,iA,u6];exact bB (h _ _ _ j (T.up { s with heap:=s.heap.update m (e8 λ_=>(#[]:Array á)) } a _ s.toks (T.up s m _ s.toks C z r) y (fX.update (s.heap.update m (e8 λ_=>(#[]:Array á))) a (e8 λ_=>(z8 st).map (·.2)))) l (by simp_all))
def Xz{keys:Array á}{e I:Nat}(T:WA d lo)(O:d s)(ok:s.heap.get? m=wz (i4 "list" keys e))(N:s.heap.get? a=wz (i4 "list" #[] I))(t:m≠a)(M:lo<=m)(L:lo<=a)
  (y:IntsAre keys.toList g) (Y:g.length=vs.length) (r:vs.length<64)
  (h:∀k p out c J,d { s with heap:=k,toks:=p }->k.get? a=wz (i4 "list" out c)->MK vs.length (λi=>g.getD i 0) J->out.toList=(J.map λi=>vs.getD i .none)->P (.done (.ret .none)) { s with heap:=k,toks:=p }) :
  å (ä prog w) A (ksk_end a ww vs.toArray I (.ref m) keys) P E s:=by
 refine Ä (W7 y Y) λo u=>?_;have C:keys.size=vs.length:=by have:=y.length;rw[eZ]at this;lia
 have x:(2:Nat)^24=bN:=rfl
 have v:∀J:List Nat,(∀i∈J,i<vs.length)->(J.map (fa (keys.zip vs.toArray))).map (·.2)=J.map λi=>vs.getD i .none:=λJ z=>by
  rw[bJ];exact jS λi l=>(u i (z i l)).2
 unfold ksk_end;simp only[iA,u6];by_cases n:vs.toArray.size<2
 ·rw[b7 n,b7 n];refine aG (bB ?_);rw[StateT.run_pure];refine aG (bB ?_)
  try dsimp only
  rw[bL]at n
  have U:(keys.zip vs.toArray).toList=(gA vs.length).map (fa (keys.zip vs.toArray)):=by
   apply kK;intro q;rw[jW,aO];by_cases B:q<vs.length
   ·rw[lF B,bn _ q (by rw[o];exact B)];show _=wz (fa _ q);unfold fa;rw[bn _ q (by rw[o];exact B)];rfl
   ·rw[eM (by simp;lia),pH (by rw[o];lia)];rfl
  have sb:MK vs.length (λi=>g.getD i 0) (gA vs.length):=⟨by
   rw[MD];intro i j l X W;simp only[uC]at l X;lia,λi l=>pJ.mp l,gC⟩
  exact RX T O ok N t M L (by rw[C,<- x];lia) (by
   show(keys.zip vs.toArray).toList.map (·.2)=_;rw[U];exact v _ sb.lt) (by simp only[uC];rw[<- x];lia) gL λk p out c F G H=>h k p out c _ F G sb H
 ·rw[a8 n,a8 n];rw[bL]at n;rw[ksk_kind y (by rw[C];lia)];refine aG (bB ?_)
  refine aG (eN (XB
   (Q:=λ_ b=>ew b=wy/\∃J,(z8 b).toList=J.map (fa (keys.zip vs.toArray))/\MK (keys.zip vs.toArray).size (K (keys.zip vs.toArray)) J)
   (ksk_intKeys y) ⟨gL,λ_ _=>rfl,λ_ Z=>Z,gL,gL,gL⟩ (by rw[o];lia) (by rw[o];exact r) λb J R a2 S=>⟨R,J,a2,S⟩) ?_ λ_ _ e=>e)
  rintro⟨⟨⟩,b⟩ s' ⟨rfl,hf,J,z,sb⟩
  try dsimp only
  rw[o]at sb;exact RX T O ok N t M L (by rw[C,<- x];lia) (by rw[z];exact v J sb.lt) (by rw[sb.len,<- x];lia) hf λk p out c F G H=>h k p out c _ F G (sb.congr λi l=>(u i l).1) H
def aDj{z:Nat}(T:WA d lo)(Y:d s)(ok:s.heap.get? m=wz (i4 "list" #[] 0))(X:s.heap.get? a=wz (i4 "list" #[] z))(p:m≠a)(C:lo<=m)(K:lo<=a)
  (S:g.length=vs.length) (o:vs.length<64) (turn:lE prog w A d lo f vs g)
  (h:∀b out c J,d b->b.heap.get? a=wz (i4 "list" out c)->MK vs.length (λi=>g.getD i 0) J->out.toList=(J.map λi=>vs.getD i .none)->P (.done (.ret .none)) b) :
  å (ä prog w) A (ksk_rest a (.ref f) ww vs.toArray z (.ref m)) P E s:=by
 have H:(2:Nat)^24=bN:=rfl;refine aG (o8 ?_)
 first
  |rw[List.forIn_toArray]
  | (rw[<- WK];simp only[List.toList_toArray])
  |rw[<- WK]
 refine aG (ksk_fold (λi b=>d b/\∃kA e,b.heap.get? m=wz (i4 "list" kA e)/\b.heap.get? a=wz (i4 "list" #[] z)/\IntsAre kA.toList (g.take i)) vs 0 s
  ⟨Y,#[],0,ok,X,by simpa using IntsAre.nil⟩ ?step ?done)
 case step=>
  rintro j x b I ⟨G,kA,e,u,F,n⟩;simp only[DX]at n |-
  have hj:=(aJ.mp I).1;obtain⟨k,q⟩:∃k,g[j]?=wz k:=⟨_,aL eH⟩
  have hz:kA.size<=vs.length:=by
   have O:=n.length;rw[eZ,bH]at O;lia
  refine aG (fo (eN (turn j x k b I q G) (λv t R=>?_) λ_ _ Q=>Q.elim));refine Å R λl v Z keep=>?_;subst v;have r:=keep m _ C u;have L:=fX.update t.heap m (e8 (·.push (.int k l)));obtain⟨y,B⟩:∃y,(t.heap.update m (e8 (·.push (.int k l)))).get? m=wz (i4 "list" (kA.push (.int k l)) y):=⟨_,ef r (·.push (.int k l))⟩;have N:g.take (j+1)=g.take j++[k]:=by rw[dD,q];simp
  have M:(kA.push (o0 k l)).toList=kA.toList++[o0 k l]:=by simp
  refine aG (bu r gL ?_ (by rw[<- H];lia) (bK (mI (GY ..)) (by rw[<- H];lia)));exact bB ⟨gL,T.up _ m _ _ Z C L,kA.push (.int k l),y,B,(L.2 a p.symm).trans (keep a _ K F),by rw[M,N];exact ksk_snoc n⟩
 case done=>
  rintro b ⟨G,kA,e,u,F,n⟩;rw[(fJ eH)]at n;refine aG (listItems_at u gL ?_);exact Xz T G u F p C K n S o λh' tk out c J l W sb U=>h _ out c J l W sb U
def aDi{n:Nat}(T:WA d lo)(u:d s)(k:s.heap.get? a=wz (i4 "list" vs.toArray n))(l:lo<=a)(t:g.length=vs.length)(b:vs.length<64)(turn:lE prog w A d lo f vs g)
  (h:∀o out c J,d o->o.heap.get? a=wz (i4 "list" out c)->MK vs.length (λi=>g.getD i 0) J->out.toList=(J.map λi=>vs.getD i .none)->P (.done (.ret .none)) o) :
  å (ä prog w) A (ksk_tree a (.ref f) ww) P E s:=by
 have q:(2:Nat)^24=bN:=rfl;have r:=bC k;obtain⟨p,j⟩:∃p,(s.heap.update a (e8 λ_=>(#[]:Array á))).get? a=wz (i4 "list" #[] p):=⟨_,ef k λ_=>#[]⟩;have e:((s.heap.update a (e8 λ_=>(#[]:Array á))).push (i4 "tuple" vs.toArray 0)).objs.size=s.heap.objs.size+1:=by rw[size_push',EL]
 refine aG (listItems_at k gL ?_);refine aG (bu k gL ?_ (by rw[bL,<- q];lia) (dA _));refine aG (seqEpoch_at j gL ?_);refine aG (wpAny_newTuple ?_ (by show vs.length<=_;rw[<- q];lia));refine aG (ft ?_ (dA _));refine n6 ?_
 exact aDj
  T (T.push { s with heap:=(s.heap.update a (e8 λ_=>(#[]:Array á))).push (i4 "tuple" vs.toArray 0) } _ (T.push { s with heap:=s.heap.update a (e8 λ_=>(#[]:Array á)) } _ (T.up s a _ s.toks u l (fX.update s.heap a (e8 λ_=>(#[]:Array á))))))
  (bA _ gL) (aK _ (aK _ j)) (by rw[e];exact iP (uG r)) (by rw[e];exact bK l (iQ (uG r))) l t b turn h
def UR{l:à}{Q:á->ã->Prop}(T:WA d lo)(u:d s)(r:s.heap.IsList l vs.toArray)(j:lo<=s.heap.objs.size)(e:g.length=vs.length)(b:vs.length<64)(turn:lE prog w A.in1.in1 d lo f vs g)
  (h:∀p D out c J,d p->s.heap.objs.size<=D->p.heap.get? D=wz (i4 "list" out c)->MK vs.length (λi=>g.getD i 0) J->out.toList=(J.map λi=>vs.getD i .none)->Q (.ref D) p) :
  å (ä prog w) A (call (.builtin "sorted") [.ref l] [(c9 "key",.ref f)]) Q E s:=by
 have q:(2:Nat)^24=bN:=rfl;refine call_function_entry_kw kind_sorted plain_sorted entry_sorted (ksk_s1 _ _) ?_;refine aG (bB ?_);refine aG (collect_list r ?_ (by lia));refine aG (ft ?_ (by lia))
 have n:((s.heap.push (i4 "list" #[] 0)).update s.heap.objs.size (e8 (·++vs.toArray))).objs.size=s.heap.objs.size+1:=by
  rw[EL,size_push']
 have k:(((s.heap.push (i4 "list" #[] 0)).update s.heap.objs.size (e8 (·++vs.toArray))).push (i4 "list" vs.toArray 0)).get? (s.heap.objs.size+1)=wz (i4 "list" vs.toArray 0):=by
  rw[<- n];exact bA _ gL
 rw[n];refine aG (n6 (wpAny_call_entry_kw slot_list_sort ⟨_,k,gL⟩ entry_list_sort ?body (ksk_l1 _ _)))
 case body=>
  rw[ksk_t1];refine aDi T (T.push { s with heap:=(s.heap.push (i4 "list" #[] 0)).update s.heap.objs.size (e8 (·++vs.toArray)) } (i4 "list" vs.toArray 0) (T.up { s with heap:=s.heap.push (i4 "list" #[] 0) } s.heap.objs.size _ s.toks (T.push s (i4 "list" #[] 0) u) j (fX.update _ _ _))) k (aCn j) e b turn λp out c J v o sb t=>⟨_,gL,?_⟩;exact bB ⟨_,gL,h p _ out c J v (pB _) o sb t⟩
end
end SS
noncomputable section
def L2.tabA:Option PySem.Addr:=wz 266
namespace L2
abbrev lE:=Sum Int â
noncomputable def I0:lE->á->Bool
|.inl k,v=>Value.isInt k v
|.inr x,v=>Value.isStrOf x v
noncomputable def La(w:f8):lE->Int
|.inl k=>hashInt k
|.inr x=>hashStr w x
def jR:∀{k v},I0 k v=wx->(∃i t,k=n9 i/\v=o0 i t)\/(∃x t,k=cu x/\v=aa x t)
|.inl i,v,h=>by
 obtain⟨t,e⟩:=Value.isInt_shape h;exact .inl ⟨i,t,gL,e⟩
|.inr x,v,h=>by
 obtain⟨t,e⟩:=Value.isStrOf_shape h;exact .inr ⟨x,t,gL,e⟩
def VO(i:Int)(t:Tok):I0 (.inl i) (.int i t)=true:=by simp[I0,Value.isInt]
def VN(x:â)(t:Tok):I0 (.inr x) (.str x t)=true:=by simp[I0,Value.isStrOf]
def Vs(a b:Int):decide ((n9 a:lE)=n9 b)=(a==b):=by
 lia
def Vw(a b:â):decide ((cu a:lE)=cu b)=decide (a=b):=by
 lia
def Vt(a:Int)(b:â):decide ((n9 a:lE)=cu b)=false:=b8 (λq=>nomatch q)
def Vv(a:â)(b:Int):decide ((cu a:lE)=n9 b)=false:=b8 (λq=>nomatch q)
noncomputable def iI(prog:cO)(w:f8):PySem.KeyKind prog w lE where
 is:=I0
 hash:=La w
 inj:=λv a b ha hb=>by
  rcases jR ha with⟨i,t,rfl,rfl⟩ | ⟨x,t,rfl,rfl⟩
  ·rcases jR hb with⟨j,u,rfl,e⟩ | ⟨y,u,rfl,e⟩
   ·lia
   lia
  ·rcases jR hb with⟨j,u,rfl,e⟩ | ⟨y,u,rfl,e⟩
   ·lia
   lia
 byValue:=λk v h=>by
  rcases jR h with⟨i,t,rfl,rfl⟩ | ⟨x,t,rfl,rfl⟩<;>rfl
 pyHash:=λhv h=>by
  rcases jR hv with⟨i,t,rfl,rfl⟩ | ⟨x,t,rfl,rfl⟩
  ·exact wpAny_pyHash_int h
  ·exact wpAny_pyHash_str h
 eqBool:=λhu hv h=>by
  rcases jR hu with⟨i,t,rfl,rfl⟩ | ⟨x,t,rfl,rfl⟩
  ·rcases jR hv with⟨j,u,rfl,rfl⟩ | ⟨y,u,rfl,rfl⟩
   ·rw[Vs]at h;exact wpAny_eqBool_int h
   ·rw[Vt]at h;exact du i t y u _ _ _ _ h
  ·rcases jR hv with⟨j,u,rfl,rfl⟩ | ⟨y,u,rfl,rfl⟩
   ·rw[Vv]at h;exact dv x t j u _ _ _ _ h
   ·rw[Vw]at h;exact wpAny_eqBool_str h
 «strs»:=λk x t v h=>by
  rcases jR h with⟨i,u,rfl,e⟩ | ⟨y,u,rfl,e⟩
  ·lia
  ·injection e with e1 _
   subst e1;cases v<;>rfl
def NM(prog:cO)(w:f8)(i:Int)(t:Tok):(iI prog w).is (.inl i) (.int i t)=true:=VO i t
def NL(prog:cO)(w:f8)(x:â)(t:Tok):(iI prog w).is (.inr x) (.str x t)=true:=VN x t
set_option genInjectivity true in
inductive V where
 |non | bl (b:Bool) | int (i:Int) | str (x:â) | byt (b:Array UInt8) | flt (b:UInt64) | ref (a:à) | ty (n:String)
 deriving DecidableEq
def fK:V->á->Prop
|.non,u=>u=j9
|.bl b,u=>u=ck b
|.int i,u=>∃t,u=o0 i t
|.str x,u=>∃t,u=aa x t
|.byt b,u=>∃t,u=Value.bytes b t
|.flt b,u=>∃t,u=eu b t
|.ref a,u=>u=d7 a
|.ty n,u=>u=fg n
abbrev fN:List V->List á->Prop:=Paired fK
theorem fN.length{b:List V}{a:List á}(r:fN b a):b.length=a.length:=ae r
theorem fN.get:∀{xs us}{i:Nat}{x},fN xs us->xs[i]?=wz x->∃u,us[i]?=wz u/\fK x u
|_,_,_,_,.nil,e=>by simp at e
|_,_,0,_,.cons r _,e=>by simp at e;subst e;exact⟨_,gL,r⟩
|_,_,i+1,x,.cons _ t,e=>by
 refine Â (fN.get t (by simpa using e)) λu a b=>?_;exact⟨u,by simpa using a,b⟩
theorem fN.set(r:fK x u):∀{b:List V}{a:List á}(i:Nat),fN b a->fN (b.set i x) (a.set i u)
|_,_,_,.nil=>.nil
|_,_,0,.cons _ t=>.cons r t
|_,_,i+1,.cons q t=>.cons q (fN.set r i t)
theorem fN.append{xs ys us ws}(h:fN xs us)(s:fN ys ws):fN (xs++ys) (us++ws):=by
 induction h with
 |nil=>exact s
 |cons r t n=>exact .cons r n
theorem fN.take:∀{b:List V}{a:List á}(n:Nat),fN b a->fN (b.take n) (a.take n)
|_,_,0,_=>.nil
|_,_,_+1,.nil=>.nil
|_,_,n+1,.cons r t=>.cons r (fN.take n t)
theorem fN.drop:∀{b:List V}{a:List á}(n:Nat),fN b a->fN (b.drop n) (a.drop n)
|_,_,0,r=>r
|_,_,_+1,.nil=>.nil
|_,_,n+1,.cons _ t=>fN.drop n t
def xY:Option V->Option á->Prop
|some v,wz u=>fK v u
|none,wy=>True
|_,_=>False
def KV{a:Type}:List (a×V)->List (a×á)->Prop:=Paired λ(p:a×V) (q:a×á)=>p.1=q.1/\fK p.2 q.2
noncomputable def kV:lE->V
|.inl i=>.int i
|.inr x=>.str x
inductive HO where
 /-- a list -/
 |lst (xs:List V)
 /-- a tuple (never changes) -/
 |tup (xs:List V)
 /-- a dict whose keys are ints and texts;one whose keys are tuples of ints and texts (the empty one is both) -/
 |dK (kvs:List (lE×V)) | dT (kvs:List (List lE×V))
 /-- a set of ints: bt members,bt size -/
 |set (S:Int->Bool) (n:Nat)
 /-- an instance of the class at C,bt dict at dx,bt attributes -/
 |ins (C dx:à) (fs:List (â×V))
 /-- the dict of the instance at x -/
 |own (x:à)
 /-- the dict of an exception -/
 |xd (fs:List (â×V))
 /-- a bound method,f of x -/
 |met (f x:à)
 /-- a range object lo,lo+1,.. below hi -/
 |rng (lo hi:Int)
 /-- a thing that is known to the object (the script;a dict while a gz walks it): read,never written while it is so -/
 |frz (o:Obj) (u:HO)
 /-- a code object's table -/
 |tbl (ps:Array á)
 /-- any other thing,by what is wx of bt one object (a def of ou own: SetO a S n:=HO.ext λh=>..) -/
 |ext (φ:ç->Prop)
abbrev Hp:=à->Option HO
noncomputable def eS(H:Hp)(a:à)(o:HO):Hp:=λb=>if b=a then wz o else H b
def bU{a:à}:eS H a o a=wz o:=by unfold eS;rw[b7 rfl]
def bZ{a b:à}(h:b≠a):eS H a o b=H b:=by unfold eS;rw[a8 h]
def D0{a:à}:eS (eS H a o) a u=eS H a u:=by
 funext b;unfold eS;split<;>rfl
def Mw{H:Hp}{a b:à}{o u:HO}(h:H a=wz o)(c:H b=wz u)(d:o≠u):a≠b:=by
 lia
def eU{H:Hp}{a b:à}{o:HO}(h:H a=wz o)(c:H b=wy):a≠b:=by
 lia
section
variable(P:cO)(w:f8)
def HC(h:ç)(a:à)(b:Array á):Prop:=∃o,h.get? a=wz o/\o.cls=.type "tuple"/\∃n,o.data=.seq b n/\o.dict=wy
def HC.tup{h}{a:à}{items}(x:HC h a items):jh h a items:=by refine Æ x λo e c n d _=>?_;exact ⟨o,e,c,n,d⟩
theorem HC.lt{h:ç}{a:à}(x:HC h a items):a<h.objs.size:=x.tup.lt
def HC.new(h:ç)(a:Array á):HC (h.push { cls:=.type "tuple",data:=.seq a }) h.objs.size a:=⟨_,bA _ gL,gL,_,gL,gL⟩
def Bg(a:Obj):Prop:=∃vs q t,a.data=.fields vs/\vs[1]?=wz (.str q t)
def jF(H:Hp)(h:ç)(a:à):HO->Prop
|.lst d=>d.length<=bN/\∃(b:List á)(n:Nat),fN d b/\h.get? a=wz { cls:=.type "list",data:=.seq b.toArray n }
|.tup d=>d.length<=bN/\∃b:List á,fN d b/\HC h a b.toArray
|.dK kvs=>kvs.length<=bN/\(a==m6)=ww/\∃vs,KV kvs vs/\h.DictOf (iI P w) a vs
|.dT kvs=>kvs.length<=bN/\(a==m6)=ww/\∃d:List (List lE×à×á),
  Paired (λ(p:List lE×V) (q:List lE×à×á)=>p.1=q.1/\H q.2.1=wz (.tup (p.1.map kV))/\fK p.2 q.2.2) kvs d /\
  ∃o i m,h.get? a=wz o/\o.ExactDict/\o.data=.dict i m/\i.toList=d.map (entryOfKey (dq (iI P w)))/\(d.map (·.1)).Nodup
|.set S n=>h.SetOf (intKind P w) a S n
|.ins C dx fs=>H dx=wz (.own a)/\fs.length<=1000/\dx≠a/\h.get? a=wz (kC C dx) /\
  ∃e,h.Ns1 dx e/\(∀f,xY (fs.lookup f) (e f))/\ee e (fs.map (·.1))
|.own _=>∃o,h.get? a=wz o
|.xd fs=>∃e,h.Ns1 a e/\∀f,xY (fs.lookup f) (e f)
|.rng lo hi=>∃t u v,h.get? a=wz { cls:=.type "range",data:=.fields #[.int lo t,.int hi u,.int 1 v] }
|.frz o u=>h.get? a=wz o/\jF H h a u
|.tbl _=>∃qs:Array á,h.get? a=wz { cls:=.none,data:=.fields qs }/\TriplesOk qs.toList/\∀(p:Pos)(c:á),codeAmong p qs.toList=wz c->∃g l,c=.ref g/\H g=wz (.frz l (.own a))/\Bg l
|.met f x=>h.get? a=wz (PySem.W.methodObj (.ref f) (.ref x))
|.ext φ=>φ h/\(∃o,h.get? a=wz o)/\∀j k:ç,φ j->(∀o,j.get? a=wz o->k.get? a=wz o)->φ k
def rG(H:Hp)(h:ç):Prop:=∀a o,H a=wz o->jF P w H h a o
end
section
variable{P:cO}{w:f8}{H g:Hp}{h h':ç}{a:à}{o:HO}
theorem jF.lt(x:jF P w H h a o):a<h.objs.size:=by
 cases o with
 |lst b=>refine Ç x λ_ _ _ _ e=>?_;exact bC e
 |tup b=>refine È x λ_ _ _ p=>?_;exact p.lt
 |dK kvs=>refine É x λ_ _ _ _ o _ _ e _=>?_;exact bC e
 |dT kvs=>refine É x λ_ _ _ _ o _ _ e _=>?_;exact bC e
 |set S n=>refine Ê x λo _ _ _ e _=>?_;exact bC e
 |ins C dx fs=>refine Á x λ_ _ _ e _=>?_;exact bC e
 |own y=>refine Ã x λ_ e=>?_;exact bC e
 |xd fs=>obtain⟨_,⟨_,_,_,e,_⟩,_⟩:=x;exact bC e
 |rng lo c=>refine Ë x λ_ _ _ e=>?_;exact bC e
 |frz ob u=>refine Ä x λe _=>?_;exact bC e
 |tbl d=>refine Â x λ_ e _=>?_;exact bC e
 |met f y=>exact bC (show h.get? a=wz _ from x)
 |ext i=>obtain⟨_,⟨_,e⟩,_⟩:=x;exact bC e
theorem Paired.mapP{c d:Type}{F G:c->d->Prop}:∀{l₁ l₂},Paired F l₁ l₂->(∀a b,F a b->G a b)->Paired G l₁ l₂:=by
 intro _ _ h f
 induction h with
 |nil=>exact .nil
 |cons r t n=>exact .cons (f _ _ r) n
def jF.stay(x:jF P w H h a o)(k:∀b u,(b=a\/H b=wz (.own a))->h.get? b=wz u->h'.get? b=wz u)
  (F:∀b,H b=wz (.own a)->g b=wz (.own a)) (G:∀b m,H b=wz (.tup m)->g b=wz (.tup m)) (E:∀b ob u,H b=wz (.frz ob u)->g b=wz (.frz ob u):=by exactλ_ _ _ q=>q):jF P w g h' a o:=by
 induction o with
 |lst m=>refine Ç x λz l n r e=>?_;exact⟨z,l,n,r,k _ _ (.inl gL) e⟩
 |tup m=>refine Ì x λz l r ob e c=>?_;exact⟨z,l,r,ob,k _ _ (.inl gL) e,c⟩
 |dK kvs=>refine É x λz y vs r ob j i e c=>?_;exact⟨z,y,vs,r,ob,j,i,k _ _ (.inl gL) e,c⟩
 |dT kvs=>
  refine É x λz y m r ob j i e c=>?_;exact⟨z,y,m,Paired.mapP r λp q z=>⟨z.1,G _ _ z.2.1,z.2.2⟩,ob,j,i,k _ _ (.inl gL) e,c⟩
 |set S n=>refine Ê x λob j i t e c=>?_;exact⟨ob,j,i,t,k _ _ (.inl gL) e,c⟩
 |ins C dx fs=>
  obtain⟨d,z,ne,e,s,⟨A,j,i,B,c⟩,r⟩:=x;exact⟨F _ d,z,ne,k _ _ (.inl gL) e,s,⟨A,j,i,k _ _ (.inr d) B,c⟩,r⟩
 |own y=>refine Ã x λob e=>?_;exact⟨ob,k _ _ (.inl gL) e⟩
 |xd fs=>obtain⟨s,⟨A,j,i,e,c⟩,r⟩:=x;exact⟨s,⟨A,j,i,k _ _ (.inl gL) e,c⟩,r⟩
 |rng lo J=>refine Ë x λt u v e=>?_;exact⟨t,u,v,k _ _ (.inl gL) e⟩
 |frz ob u I=>refine Ä x λe q=>?_;exact⟨k _ _ (.inl gL) e,I q⟩
 |tbl K=>
  refine Å x λqs e t z=>?_;exact⟨qs,k a _ (.inl gL) e,t,λp c q=>by obtain⟨c',oc,h1,h2,h3⟩:=z p c q;exact ⟨c',oc,h1,E _ _ _ h2,h3⟩⟩
 |met f y=>
  have e:=x;exact k a _ (.inl gL) e
 |ext L=>obtain⟨p,⟨o,e⟩,st⟩:=x;exact⟨st _ _ p λo q=>k _ _ (.inl gL) q,⟨o,k _ _ (.inl gL) e⟩,st⟩
theorem rG.lt(x:rG P w H h)(e:H a=wz o):a<h.objs.size:=(x a o e).lt
def rG.fresh(x:rG P w H h)(e:h.objs.size<=a):H a=none:=by
 cases q:H a with
 |none=>rfl
 |some u=>exact b9 (cA (x.lt q) e) (fF _)
def rG.kept(x:rG P w H h)(k:∀b u,h.get? b=wz u->h'.get? b=wz u):rG P w H h':=λa o e=>
 (x a o e).stay (λb u _ q=>k b u q) (λ_ q=>q) λ_ _ q=>q
def rG.laid(x:rG P w H h)(k:∀b u,h.get? b=wz u->h'.get? b=wz u)(f:h.objs.size<=a)(new:jF P w (eS H a o) h' a o):rG P w (eS H a o) h':=λb u e=>by
 have d:=x.fresh f;by_cases hb:b=a
 ·subst hb;rw[bU]at e;lia
 ·rw[bZ hb]at e;exact(x b u e).stay (λc v _ q=>k c v q) (λc q=>by rw[bZ (eU q d)];exact q) (λc i q=>by rw[bZ (eU q d)];exact q) λc ob v q=>by rw[bZ (eU q d)];exact q
end
def Rd(H:Hp)(a:à)(u:HO):Prop:=H a=wz u\/∃o,H a=wz (.frz o u)
def Rd.ok{h}{a:à}(r:Rd H a u)(x:rG P w H h):jF P w H h a u:=by
 rcases r with r | ⟨o,r⟩
 ·exact x a u r
 ·refine Ä (x a _ r) λ_ q=>?_;exact q
def xz:Option HO->Prop
|some (.lst _)=>True
|some (.dK _)=>True
|some (.dT _)=>True
|some (.set _ _)=>True
|some (.ins _ _ _)=>True
|some (.ext _)=>True
|_=>False
section
variable{P:cO}{w:f8}{H:Hp}{h a:ç}{x e:à}{d:HO}
def rG.write(ok:rG P w H h)(i:xz (H x))(l:e=x\/H e=wz (.own x))(k:∀b u,b≠e->h.get? b=wz u->a.get? b=wz u)(j:∃u,a.get? e=wz u)
  (new:jF P w (eS H x d) a x d):rG P w (eS H x d) a:=λb u q=>by
 have g:∀c y,H c=wz (.own y)->c≠x:=λc y r z=>by subst z;rw[r]at i;exact i
 by_cases hb:b=x
 ·subst hb;rw[bU]at q;lia
 ·rw[bZ hb]at q;by_cases f:b=e
  ·have m:H b=wz (.own x):=by
    rcases l with z | z
    ·exact b9 (f.trans z) hb
    ·rw[f];exact z
   rw[q]at m;cases m;refine Ã j λv o=>?_;exact⟨v,by lia⟩
  ·refine(ok b u q).stay (λc v hc r=>k c v ?_ r) (λc r=>by rw[bZ (g c b r)];exact r) (λc n r=>by rw[bZ ((λc n r z=>by subst z;rw[r]at i;exact i) c n r)];exact r) λc ob v r=>by rw[bZ (λz=>by subst z;rw[r]at i;exact i)];exact r
   rcases hc with rfl | hc
   ·exact f
   ·rintro rfl;rcases l with z | z
    ·grind
    ·rw[hc]at z;cases z;exact hb gL
end
structure Un(fs ex:List à)(H H':Hp)(h h':ç):Prop where
 keep:∀b o,h.get? b=wz o->H b=wy->b∉fs->b∉ex->h'.get? b=wz o
 slot:∀b o,h.get? b=wz o->H b=wy->b∈fs->b∉ex->∃sl,h'.get? b=wz { o with slots:=sl }
 free:∀b o,h.get? b=wz o->H b=wy->b∉ex->H' b=wy
 there:∀b o,h.get? b=wz o->b∉ex->∃o',h'.get? b=wz o'
 tups:∀b xs,H b=wz (.tup xs)->H' b=wz (.tup xs)
 frzs:∀b o u,H b=wz (.frz o u)->H' b=wz (.frz o u)
 tbls:∀b ps,H b=wz (.tbl ps)->∃more,H' b=wz (.tbl (ps++more))
section
variable{fs ex:List à}{H f g:Hp}{h d i h':ç}{a x e:à}{o:HO}
def Un.any(u:Un fs ex H f h d){b:à}(q:h.get? b=wz ob)(n:H b=wy)(c:b∉ex):∃j,d.get? b=wz { ob with slots:=j }:=by
 by_cases hb:b∈fs
 ·exact u.slot b ob q n hb c
 ·exact⟨ob.slots,u.keep b ob q n hb c⟩
def Un.trans(a:Un fs ex H f h d)(b:Un fs ex f g d i):Un fs ex H g h i where
 keep:=λc ob q n hc hx=>b.keep c ob (a.keep c ob q n hc hx) (a.free c ob q n hx) hc hx
 slot:=λc ob q n hc hx=>by
  refine Ã (a.slot c ob q n hc hx) λsl e1=>?_;refine Ã (b.slot c _ e1 (a.free c ob q n hx) hc hx) λnn e2=>?_;grind
 free:=λc ob q n hx=>by
  refine Ã (a.there c ob q hx) λo' e1=>?_;exact b.free c o' e1 (a.free c ob q n hx) hx
 there:=λc ob q hx=>by
  refine Ã (a.there c ob q hx) λo' e1=>?_;exact b.there c o' e1 hx
 tups:=λc xs q=>b.tups c xs (a.tups c xs q)
 frzs:=λc ob xs q=>b.frzs c ob xs (a.frzs c ob xs q)
 tbls:=λc ps q=>by
  refine Ã (a.tbls c ps q) λm1 e1=>?_;refine Ã (b.tbls c _ e1) λm2 e2=>?_;grind
def Un.kept(k:∀b u,h.get? b=wz u->h'.get? b=wz u):Un fs ex H H h h':=
 ⟨λb ob q _ _ _=>k b ob q,λb ob q _ _ _=>⟨ob.slots,k b ob q⟩,λ_ _ _ n _=>n,λb ob q _=>⟨ob,k b ob q⟩,λ_ _ q=>q,λ_ _ _ q=>q,λ_ c q=>⟨#[],by rw[q];simp⟩⟩
def Un.refl:Un fs ex H H h h:=Un.kept λ_ _ q=>q
def Un.laid(k:∀b u,h.get? b=wz u->h'.get? b=wz u)(hp:h.objs.size<=a)(hn:H a=wy):Un fs ex H (eS H a o) h h' where
 keep:=λb u q _ _ _=>k b u q
 slot:=λb u q _ _ _=>⟨u.slots,k b u q⟩
 free:=λb u q n _=>by rw[bZ (cU (cA (bC q) hp))];exact n
 there:=λb u q _=>⟨u,k b u q⟩
 tups:=λb xs q=>by rw[bZ (eU q hn)];exact q
 frzs:=λb u xs q=>by rw[bZ (eU q hn)];exact q
 tbls:=λb ps q=>⟨#[],by rw[bZ (eU q hn),q];simp⟩
def Un.write(j:xz (H x))(s:e=x\/H e=wz (.own x))(k:∀b u,b≠e->h.get? b=wz u->h'.get? b=wz u)(l:∃u,h'.get? e=wz u):Un fs ex H (eS H x o) h h':=by
 have p:∀b,H b=wy->b≠x:=λb n z=>by subst z;rw[n]at j;exact j
 have hb:∀b,H b=wy->b≠e:=λb n z=>by
  lia
 have m:∀b u,H b=wz u->¬xz (wz u)->b≠x:=λb u q nm z=>by lia
 refine⟨λb u q n _ _=>k b u (hb b n) q,λb u q n _ _=>⟨u.slots,k b u (hb b n) q⟩,λb u q n _=>by rw[bZ (p b n)];exact n,λb u q _=>?_,
  λb t q=>by rw[bZ (m b _ q λz=>z)];exact q,λb u t q=>by rw[bZ (m b _ q λz=>z)];exact q,λb v q=>⟨#[],by rw[bZ (m b _ q λz=>z),q];simp⟩⟩
 grind
end
noncomputable def trk(h:ç)(H:Hp):List Addr:=(gA h.objs.size).filter λa=>(H a).isSome
noncomputable def QQ(h:ç)(H:Hp):Heap:=PySem.W.hideAll h (trk h H)
def VR(h:ç)(H:Hp):(QQ h H).objs.size=h.objs.size:=PySem.W.hideAll_size _ _
def aAv{h:ç}{b:à}(e:h.get? b=wz o)(n:H b=wy):(QQ h H).get? b=wz o:=
 PySem.W.hideAll_get _ e λa=>by
  have q:=(cW.mp a).2;grind
def Zl{h:ç}{H:Hp}{b:à}(e:(QQ h H).get? b=wz o):h.get? b=wz o/\H b=none:=by
 have a:=PySem.W.of_hideAll (trk h H) e;refine⟨a,?_⟩
 cases q:H b with
 |none=>rfl
 |some x=>
  have z:(QQ h H).get? b=none:=PySem.W.hideAll_none (trk h H) (cW.mpr ⟨pJ.mpr (bC a),by simp[q]⟩);lia
noncomputable def Ye(g h:ç)(L:à):List (à×Obj):=(gA h.objs.size).filterMap λa=>if a=L\/(g.get? a).isSome=wx then wy else(h.get? a).map λo=>(a,o)
noncomputable def jM(g h:ç)(L d:à):List (à×Obj):=(Ye g h L).filter λp=>decide (p.1≠d)
structure Mod(K:aH)(mg:â->Option á)(base:ç):Prop where
 kin:K.In base
 glob:base.Ns iM mg
 blt:∃mb,base.Ns o6 mb/\∀x:â,x≠"__name__"->mb x=d9 x
 nolimit:base.NoLimit
 bmod:∃bm o,mg "__builtins__"=wz (.ref bm)/\bm≠o6/\base.get? bm=wz o/\o.cls=.type "module"/\o.dict=wz o6/\o.data=.plain
structure Cx where
 prog:cO
 w:f8
 K:aH
 mg:â->Option á
 base:ç
 A:e6
 N:List â
 s₀:ã
 H₀:Hp
 env:Env
 outer:List Env
 stack:List Env
 ex:List à
 fn:â->Bool
 calm:Bool
 pn:List (à×Obj)
 xe:á->ã->Prop
noncomputable def tT(l:List Env):List Addr:=l.filterMap (·.frame)
noncomputable abbrev Cx.fs(X:Cx):List Addr:=tT X.outer
def zd(a:Scope)(x:â):Prop:=a.names.lookup x=wz .local\/a.names.lookup x=wz .cell\/a.names.lookup x=wz .free
def WU(a:Scope)(x:â):Prop:=a.names.lookup x=wz .local\/a.names.lookup x=wz .cell
def Jr(env:Env)(h:ç)(m:â->Option á)(x:â)(u:á):Prop:=
 (env.kindOf x=wz .local/\m x=wz u)\/((env.kindOf x=wz .cell\/env.kindOf x=wz .free)/\∃c,env.cells.lookup x=wz c/\h.IsCell c (wz u))
def Tb(H:Hp):Prop:=∀P,tabA=wz P->∃a,H P=wz (.tbl a)
structure Cx.Ok(X:Cx):Prop where
 mod:Mod X.K X.mg X.base
 kind:X.env.scope.kind=.function
 glob:X.env.globals=iM
 blt:X.env.builtins=o6
 above:X.s₀.heap.objs.size<=X.env.locals
 inj:∀x y c,X.env.cells.lookup x=wz c->X.env.cells.lookup y=wz c->x=y
 has:∀x,(X.env.kindOf x=wz .cell\/X.env.kindOf x=wz .free)->∃c,X.env.cells.lookup x=wz c
 cab:∀x c,X.fn x=wx->X.env.cells.lookup x=wz c->X.s₀.heap.objs.size<=c
 hd:X.calm=wx->X.A.handled=wy
 frames:X.A.frames=wz X.stack
 stk:X.stack=X.outer\/(X.stack=X.env::X.outer/\X.env.frame=wz X.env.locals)
 exf:∀b∈X.ex,b≠X.env.locals/\∀x c,X.env.cells.lookup x=wz c->c≠b
 bs:∀b o,X.base.get? b=wz o->X.s₀.heap.get? b=wz o/\X.H₀ b=wy
 bsz:X.base.objs.size<=X.s₀.heap.objs.size
 noex:∀b o,X.base.get? b=wz o->b∉X.ex
 exfs:∀b∈X.ex,b∉X.fs
 funs:X.s₀.heap.FunFrames X.base X.outer
 frf:∀b∈X.fs,X.H₀ b=wy
 tab:Tb X.H₀
structure dL(X:Cx)(pins:List (à×Obj))(σ:List (Option V))(H:Hp)(s:ã):Prop where
 ok:X.Ok
 os:s.os=X.s₀.os
 bare:v9 s.gens
 base:Un X.fs X.ex X.H₀ H X.s₀.heap s.heap
 loc:∃m,s.heap.Ns X.env.locals m/\∀(i:Nat)(x:â)(v:V),X.N[i]?=wz x->σ[i]?=wz (wz v)->zd X.env.scope x->∃u,fK v u/\Jr X.env s.heap m x u
 cell:∀x c,X.env.cells.lookup x=wz c->∃v,s.heap.IsCell c v
 free:H X.env.locals=wy
 freeC:∀x c,X.env.cells.lookup x=wz c->H c=wy
 pin:∀p∈X.pn++pins,s.heap.get? p.1=wz p.2/\H p.1=wy/\p.1≠X.env.locals/\p.1∉X.fs/\∀v,p.2.data≠.cell v
 hok:rG X.prog X.w H s.heap
 len:σ.length=X.N.length
section
variable{X:Cx}{f:List (à×Obj)}{g:List (Option V)}{H H':Hp}{s:ã}{h':ç}
def Cx.Ok.nofr(ok:X.Ok){b:à}(e:X.base.get? b=wz o):b∉X.fs:=λhb=>by
 have:=(ok.funs.mem hb).1;lia
theorem dL.bs(I:dL X f g H s):∀b o,X.base.get? b=wz o->s.heap.get? b=wz o/\H b=none:=λb o e=>
 ⟨I.base.keep b o (I.ok.bs b o e).1 (I.ok.bs b o e).2 (I.ok.nofr e) (I.ok.noex b o e),I.base.free b o (I.ok.bs b o e).1 (I.ok.bs b o e).2 (I.ok.noex b o e)⟩
def dL.bk(I:dL X f g H s):∀b o,X.base.get? b=wz o->s.heap.get? b=wz o:=λb o e=>(I.bs b o e).1
theorem dL.mod(I:dL X f g H s):Mod X.K X.mg X.base:=I.ok.mod
def dL.kIn(I:dL X f g H s):X.K.In s.heap:=I.ok.mod.kin.keeps I.bk
theorem dL.nolimit(I:dL X f g H s):s.heap.NoLimit:=I.ok.mod.nolimit.keeps I.bk
theorem dL.lt(I:dL X f g H s):X.env.locals<s.heap.objs.size:=by refine Â I.loc λ_ hn _=>?_;exact hn.lt
def dL.sz(I:dL X f g H s):X.s₀.heap.objs.size<=s.heap.objs.size:=bK I.ok.above (iQ I.lt)
def dL.nofs(I:dL X f g H s){a:à}(h:s.heap.objs.size<=a):a∉X.fs:=λhb=>by
 refine È (I.ok.funs.mem hb) λ_ o b _=>?_;exact b9 (cA (bC b) (bK I.sz h)) (fF _)
def dL.cne(I:dL X f g H s):∀x c,X.env.cells.lookup x=wz c->c≠X.env.locals:=λx c e z=>by
 refine Î (I.cell x c e) λv o d hd=>?_;obtain⟨m,⟨j,i,h,b,a,_⟩,_⟩:=I.loc;lia
theorem dL.funs(I:dL X f g H s):s.heap.FunFrames X.base X.outer:=by
 have all:∀l,(∀b∈tT l,b∈X.fs)->X.s₀.heap.FunFrames X.base l->s.heap.FunFrames X.base l:=by
  intro l
  induction l with
  |nil=>intro _ _;trivial
  |cons env r n=>
   intro d i;obtain⟨h,⟨L,o,c,j,k,hd⟩,m⟩:=i;have a:=d L (by unfold tT;rw[lG,c];exact aM);refine Ã (I.base.slot L o k (I.ok.frf L a) a λz=>I.ok.exfs L z a) λp e=>?_;exact⟨h,⟨L,_,c,j,e,hd⟩,n (λb hb=>d b (by unfold tT;rw[lG,c];exact aE _ hb)) m⟩
 exact all X.outer (λ_ hb=>hb) I.ok.funs
theorem dL.stack(I:dL X f g H s):s.heap.FunFrames X.base X.stack:=by
 rcases I.ok.stk with e | ⟨e,a⟩
 ·rw[e];exact I.funs
 ·rw[e];refine Â I.loc λm b _=>?_;refine .cons (by rw[I.ok.kind];decide) a b ?_ I.funs;exact qW (bK I.ok.bsz I.ok.above)
def dL.stkSub(I:dL X f g H s):∀b∈tT X.stack,b∈X.env.locals::X.fs:=λb hb=>by
 rcases I.ok.stk with e | ⟨e,a⟩
 ·grind
 ·rw[e]at hb;unfold tT at hb;rw[lG,a]at hb;exact hb
def dL.stkFree(I:dL X f g H s):∀b∈tT X.stack,H b=none:=λb hb=>by
 rcases aQ.mp (I.stkSub b hb)with e | hb
 ·rw[e];exact I.free
 ·refine È (I.ok.funs.mem hb) λ_ o a _=>?_;exact I.base.free b o a (I.ok.frf b hb) λz=>I.ok.exfs b z hb
def dL.step{M:Array GenState}{t':Nat}{d':Drawn}{ch:List à}(I:dL X f g H s)
  (j:∀b∈ch,(b∈X.ex\/X.s₀.heap.objs.size<=b)/\b≠X.env.locals/\(∀x c,X.env.cells.lookup x=wz c->c≠b)/\∀p∈X.pn++f,p.1≠b)
  (keep:∀b o,b≠X.env.locals->b∉X.fs->b∉ch->s.heap.get? b=wz o->H b=wy->h'.get? b=wz o)
  (slot:∀b o,b≠X.env.locals->b∈X.fs->b∉ch->s.heap.get? b=wz o->H b=wy->∃K,h'.get? b=wz { o with slots:=K }) (free:∀b o,b∉ch->s.heap.get? b=wz o->H b=wy->H' b=wy)
  (there:∀b o,b∉ch->s.heap.get? b=wz o->∃G,h'.get? b=wz G)
  (tups:∀b B,H b=wz (.tup B)->H' b=wz (.tup B)) (frzs:∀b o u,H b=wz (.frz o u)->H' b=wz (.frz o u)) (tbls:∀b J,H b=wz (.tbl J)->∃more,H' b=wz (.tbl (J++more)))
  (ns:∀m,s.heap.Ns X.env.locals m->h'.Ns X.env.locals m) (hok:rG X.prog X.w H' h') (R:v9 M) :
  dL X f g H' { s with heap:=h',gens:=M,drawn:=d',toks:=t' }:=by
 have F:∀b o,X.s₀.heap.get? b=wz o->b≠X.env.locals:=λb o e=>cU (cA (bC e) I.ok.above)
 have A:∀b o,X.s₀.heap.get? b=wz o->b∉X.ex->b∉ch:=λb o e a hb=>by
  rcases(j b hb).1 with z | z
  ·exact a z
  ·exact b9 (cA (bC e) z) (fF _)
 have h:∀x c,X.env.cells.lookup x=wz c->∀v,s.heap.IsCell c v->h'.IsCell c v:=λx c e v ⟨o,C,hd⟩=>by
  have t:=λz=>(j c z).2.2.1 x c e gL;by_cases N:c∈X.fs
  ·refine Ã (slot c o (I.cne x c e) N t C (I.freeC x c e)) λK q=>?_;exact⟨_,q,hd⟩
  ·exact⟨o,keep c o (I.cne x c e) N t C (I.freeC x c e),hd⟩
 refine⟨I.ok,I.os,R,⟨λb o e n hb a=>?_,λb o e n hb a=>?_,λb o e n a=>?_,λb o e a=>?_,λb B e=>tups b B (I.base.tups b B e),λb o B e=>frzs b o B (I.base.frzs b o B e),λb J e=>?_⟩,?_,λx c e=>?_,?_,λx c e=>?_,λp O=>?_,hok,I.len⟩
 ·exact keep b o (F b o e) hb (A b o e a) (I.base.keep b o e n hb a) (I.base.free b o e n a)
 ·refine Ã (I.base.slot b o e n hb a) λK y=>?_;refine Ã (slot b _ (F b o e) hb (A b o e a) y (I.base.free b o e n a)) λL E=>?_;exact⟨L,E⟩
 ·refine Ã (I.base.there b o e a) λG y=>?_;exact free b G (A b o e a) y (I.base.free b o e n a)
 ·refine Ã (I.base.there b o e a) λG y=>?_;exact there b G (A b o e a) y
 ·refine Ã (I.base.tbls b J e) λU y=>?_;obtain⟨W,E⟩:=tbls b _ y;exact⟨U++W,by rw[E,WM]⟩
 ·refine Â I.loc λm T S=>?_;refine⟨m,ns m T,λi x v y E Q=>?_⟩;refine Â (S i x v y E Q) λu r l=>?_;refine⟨u,r,?_⟩;rcases l with l | ⟨k,c,e,z⟩
  ·exact .inl l
  ·exact .inr ⟨k,c,e,h x c e _ z⟩
 ·refine Ã (I.cell x c e) λv z=>?_;exact⟨v,h x c e v z⟩
 ·obtain⟨m,⟨o,_,_,C,_⟩,_⟩:=I.loc;exact free _ o (λz=>(j _ z).2.1 gL) C I.free
 ·refine Î (I.cell x c e) λv o C hd=>?_;exact free c o (λz=>(j c z).2.2.1 x c e gL) C (I.freeC x c e)
 ·refine Á (I.pin p O) λe n ne P d=>?_;have t:=λz=>(j p.1 z).2.2.2 p O gL;exact⟨keep p.1 p.2 ne P t e n,free p.1 p.2 t e n,ne,P,d⟩
def dL.un{t':Nat}(I:dL X f g H s)(u:Un X.fs [] H H' s.heap h')(hok:rG X.prog X.w H' h'):dL X f g H' { s with heap:=h',toks:=t' }:=by
 obtain⟨m,⟨o,p,l,h,r⟩,_⟩:=id I.loc;refine Ã (u.any h I.free gC) λv i=>?_
 exact I.step (ch:=[]) (λ_ z=>nomatch z) (λb o _ hb _ e n=>u.keep b o e n hb gC) (λb o _ hb _ e n=>u.slot b o e n hb gC) (λb o _ e n=>u.free b o e n gC) (λb o _ e=>u.there b o e gC) u.tups u.frzs u.tbls (λq j=>by
  refine Ï j λt d c a k=>?_;rw[h]at a;cases a;exact⟨_,d,c,i,k⟩) hok I.bare
def dL.call{q:Array GenState}{C:Nat}{v:Drawn}{l:List à}(I:dL X f g H s)(u:Un (tT X.stack) l H H' s.heap h')(hok:rG X.prog X.w H' h')(y:v9 q)
  (d:∀b∈l,(b∈X.ex\/X.s₀.heap.objs.size<=b)/\b≠X.env.locals/\(∀x c,X.env.cells.lookup x=wz c->c≠b)/\∀p∈X.pn++f,p.1≠b) :
  dL X f g H' { s with heap:=h',gens:=q,drawn:=v,toks:=C }:=by
 obtain⟨m,⟨o,F,E,t,r⟩,_⟩:=id I.loc;refine Ã (u.any t I.free λz=>(d _ z).2.1 gL) λK k=>?_
 exact I.step d (λb o k hb a e n=>u.keep b o e n (λz=>(aQ.mp (I.stkSub b z)).elim k hb) a) (λb o _ _ a e n=>u.any e n a) (λb o a e n=>u.free b o e n a) (λb o a e=>u.there b o e a) u.tups u.frzs u.tbls (λG A=>by
  refine Ï A λJ j i h B=>?_;rw[t]at h;cases h;exact⟨_,j,i,k,B⟩) hok y
def dL.turned{t':Nat}{a:à}(I:dL X f g H s)(k:∀b o,b≠a->s.heap.get? b=wz o->h'.get? b=wz o)(B:H a=wy)(i:a≠X.env.locals)
  (t:a∈X.ex\/X.s₀.heap.objs.size<=a) (w:∀x c,X.env.cells.lookup x=wz c->c≠a) (y:∀p∈X.pn++f,p.1≠a):dL X f g H { s with heap:=h',toks:=t' }:=by
 have h:∀b u,H b=wz u->b≠a:=λb u e z=>by lia
 refine I.step (ch:=[a]) (λb hb=>?_) (λb o _ _ d e _=>k b o (λz=>d (by simp[z])) e) (λb o _ _ d e _=>⟨o.slots,k b o (λz=>d (by simp[z])) e⟩) (λ_ _ _ _ n=>n)
  (λb o d e=>⟨o,k b o (λz=>d (by simp[z])) e⟩) (λ_ _ e=>e) (λ_ _ _ e=>e) (λb E e=>⟨#[],by rw[e];simp⟩) (λm A=>?_) (λb u e=>?_) I.bare
 ·grind
 ·refine Ï A λo l j C r=>?_;exact⟨o,l,j,k _ o (i5 i) C,r⟩
 ·refine(I.hok b u e).stay (λc v d q=>k c v ?_ q) (λ_ q=>q) λ_ _ q=>q;lia
def dL.tok(I:dL X f g H s)(t:Nat):dL X f g H { s with toks:=t }:=I.un Un.refl I.hok
theorem dL.kept{t':Nat}(I:dL X f g H s)(k:∀b u,s.heap.get? b=wz u->h'.get? b=wz u):dL X f g H { s with heap:=h',toks:=t' }:=I.un (Un.kept k) (I.hok.kept k)
theorem dL.laid{a:à}{t':Nat}(I:dL X f g H s)(k:∀b u,s.heap.get? b=wz u->h'.get? b=wz u)(c:s.heap.objs.size<=a)(new:jF X.prog X.w (eS H a o) h' a o) :
  dL X f g (eS H a o) { s with heap:=h',toks:=t' }:=I.un (Un.laid k c (I.hok.fresh c)) (I.hok.laid k c new)
theorem dL.write{x e:à}{h:Nat}(I:dL X f g H s)(d:xz (H x))(c:e=x\/H e=wz (.own x))(k:∀b u,b≠e->s.heap.get? b=wz u->h'.get? b=wz u)(a:∃u,h'.get? e=wz u)
  (new:jF X.prog X.w (eS H x o) h' x o):dL X f g (eS H x o) { s with heap:=h',toks:=h }:=I.un (Un.write d c k a) (I.hok.write d c k a new)
def dL.pins_of(I:dL X f g H s)(h:∀p∈pins',s.heap.get? p.1=wz p.2/\H p.1=wy/\p.1≠X.env.locals/\p.1∉X.fs/\∀v,p.2.data≠.cell v):dL X pins' g H s:=
 ⟨I.ok,I.os,I.bare,I.base,I.loc,I.cell,I.free,I.freeC,λp a=>(bM.mp a).elim (λz=>I.pin p (eG _ z)) (h p),I.hok,I.len⟩
def FM{N:List â}(e:N.Nodup){i j:Nat}(a:N[i]?=wz x)(b:N[j]?=wz x):i=j:=by
 obtain⟨h,c⟩:=aJ.mp a;obtain⟨k,d⟩:=aJ.mp b;exact(aCp e).mp (c.trans d.symm)
def IA{E:á->ã->Prop}{i:Nat}{Q:Unit->ã->Prop}(I:dL X f g H s)(hN:X.N.Nodup)(S:X.N[i]?=wz x)(C:WU X.env.scope x)(r:fK v u)
  (h:∀s',dL X f (g.set i (wz v)) H s'->(∃a,fX a s.heap s'.heap/\(a=X.env.locals\/X.env.cells.lookup x=wz a))->Q () s') (hf:autoParam (X.fn x=wx\/X.env.scope.names.lookup x=wz .local) zzn._auto_1):å M A (storeName X.env x u) Q E s:=by
 refine Â (id I.loc) λm hn hl=>?_;have R:(X.env.scope.kind==.class||(X.env.scope.kind==.module&&X.env.locals != X.env.globals))=false:=by rw[I.ok.kind];rfl
 have J:i<g.length:=by rw[I.len];exact(aJ.mp S).1
 have cne:=I.cne
 have B:∀{a:à}{h':ç},(∃o,s.heap.get? a=wz o/\H a=wy)->fX a s.heap h'->rG X.prog X.w H h':=λ{a h'} ha l b ob e=>by
  refine Â ha λ_ _ F=>?_;refine(I.hok b ob e).stay (λc Y hc q=>(l.2 c ?_).trans q) (λ_ q=>q) λ_ _ q=>q;lia
 rcases C with hk | hk
 ·refine wpAny_storeName_local hk hn (λh' sr l=>?_) R;refine Ï (id hn) λoL _ _ sw _=>?_;refine h _ ⟨I.ok,I.os,I.bare,⟨λb o e n hb C=>?_,λb o e n hb C=>?_,I.base.free,λb o e C=>?_,I.base.tups,I.base.frzs,I.base.tbls⟩,⟨_,sr,λj y v' t G Z=>?_⟩,λy c e=>?_,I.free,I.freeC,λp hp=>?_,B ⟨oL,sw,I.free⟩ l,by simpa using I.len⟩ ⟨_,l,.inl gL⟩
  ·exact(l.2 b (cU (cA (bC e) I.ok.above))).trans (I.base.keep b o e n hb C)
  ·refine Ã (I.base.slot b o e n hb C) λsl t=>?_;exact⟨sl,(l.2 b (cU (cA (bC e) I.ok.above))).trans t⟩
  ·refine Ã (I.base.there b o e C) λo' t=>?_;exact⟨o',(l.2 b (cU (cA (bC e) I.ok.above))).trans t⟩
  ·by_cases L:j=i
   ·subst L;rw[S]at t;cases t;rw[bO J]at G;cases G;exact⟨u,r,.inl ⟨hk,gC⟩⟩
   ·rw[bG (i5 L)]at G;refine Â (hl j y v' t G Z) λu' r' q=>?_;refine⟨u',r',?_⟩;rcases q with⟨k,e⟩ | ⟨k,c,e,z⟩
    ·refine .inl ⟨k,?_⟩;have:y≠x:=λe=>L (FM hN t (e▸S));lia
    ·exact .inr ⟨k,c,e,z.sameBut l (cne y c e)⟩
  ·refine Ã (I.cell y c e) λY z=>?_;exact⟨Y,z.sameBut l (cne y c e)⟩
  ·refine Á (I.pin p hp) λe n ne nf d=>?_;exact⟨(l.2 p.1 ne).trans e,n,ne,nf,d⟩
 ·have K:X.fn x=true:=by
   rcases hf with z | z
   ·exact z
   ·rw[z]at hk;cases hk
  refine Ã (I.ok.has x (.inl hk)) λc hc=>?_;refine Ã (I.cell x c hc) λY z=>?_;refine wpAny_storeName_cell I.ok.kind hk hc z (λh' O l=>?_);refine Â (id z) λoc T U=>?_;refine h { s with heap:=h' } ⟨I.ok,I.os,I.bare,⟨λb o e n hb C=>?_,λb o e n hb C=>?_,I.base.free,λb o e C=>?_,I.base.tups,I.base.frzs,I.base.tbls⟩,⟨m,hn.sameBut l (i5 (cne x c hc)),λj y v' t G Z=>?_⟩,λy W e=>?_,I.free,I.freeC,λp hp=>?_,B ⟨oc,T,I.freeC x c hc⟩ l,by simpa using I.len⟩ ⟨c,l,.inr hc⟩
  ·exact(l.2 b (cU (cA (bC e) (I.ok.cab x c K hc)))).trans (I.base.keep b o e n hb C)
  ·refine Ã (I.base.slot b o e n hb C) λsl t=>?_;exact⟨sl,(l.2 b (cU (cA (bC e) (I.ok.cab x c K hc)))).trans t⟩
  ·refine Ã (I.base.there b o e C) λo' t=>?_;exact⟨o',(l.2 b (cU (cA (bC e) (I.ok.cab x c K hc)))).trans t⟩
  ·by_cases L:j=i
   ·subst L;rw[S]at t;cases t;rw[bO J]at G;cases G;exact⟨u,r,.inr ⟨.inl hk,c,hc,O⟩⟩
   ·rw[bG (i5 L)]at G;refine Â (hl j y v' t G Z) λu' r' q=>?_;refine⟨u',r',?_⟩;rcases q with q | ⟨k,W,e,z'⟩
    ·exact .inl q
    ·refine .inr ⟨k,W,e,z'.sameBut l ?_⟩;rintro rfl;exact L (FM hN t (I.ok.inj _ _ _ e hc▸S))
  ·by_cases P:W=c
   ·grind
   ·refine Ã (I.cell y W e) λw2 z2=>?_;exact⟨w2,z2.sameBut l P⟩
  ·refine Á (I.pin p hp) λe n ne nf d=>?_;refine⟨(l.2 p.1 ?_).trans e,n,ne,nf,d⟩;grind
def EX{E:á->ã->Prop}{i:Nat}{Q:Unit->ã->Prop}(I:dL X f g H s)(c:X.N.Nodup)(e:X.N[i]?=wz x)(j:WU X.env.scope x)(r:fK v u)
  (h:∀a,dL X f (g.set i (wz v)) H a->Q () a) (d:autoParam (X.fn x=wx\/X.env.scope.names.lookup x=wz .local) zzn._auto_1):å M A (storeName X.env x u) Q E s:=
 IA I c e j r (λa b _=>h a b) d
def dL.call'{a:ã}(I:dL X f g H s)(h:a.os=s.os)(u:Un (tT X.stack) ch H H' s.heap a.heap)(hok:rG X.prog X.w H' a.heap)(e:v9 a.gens)
  (d:∀b∈ch,(b∈X.ex\/X.s₀.heap.objs.size<=b)/\b≠X.env.locals/\(∀x c,X.env.cells.lookup x=wz c->c≠b)/\∀p∈X.pn++f,p.1≠b):dL X f g H' a:=by
 obtain⟨h',j,i,l,k⟩:=a;subst h;exact I.call u hok e d
end
abbrev XK:=á->Option à->Hp->Prop
abbrev St:=List (Option V)
abbrev VK:=V->Hp->Prop
abbrev TE:=St->Hp->VK->Prop
abbrev TT:=St->Hp->(Bool->Hp->Prop)->Prop
abbrev TA:=St->Hp->(List V->Hp->Prop)->Prop
structure aB4 where
 nx:St->Hp->Prop
 rt:VK
 bk:St->Hp->Prop:=λ_ _=>False
 ct:St->Hp->Prop:=λ_ _=>False
abbrev TS:=aB4->St->Hp->Prop
def EP(X:Cx)(a:List (à×Obj))(d:St)(Q:VK)(u:á)(c:ã):Prop:=∃v b,dL X a d b c/\fK v u/\Q v b
def TP(X:Cx)(a:List (à×Obj))(e:St)(Q:Bool->Hp->Prop)(b:Bool)(d:ã):Prop:=∃c,dL X a e c d/\Q b c
def AP(X:Cx)(a:List (à×Obj))(e:St)(Q:List V->Hp->Prop)(d:List á)(c:ã):Prop:=∃vs b,dL X a e b c/\fN vs d/\Q vs b
def SP(X:Cx)(b:List (à×Obj))(D:aB4)(f:Flow)(d:ã):Prop:=
 match f with
 |.next=>∃a c,dL X b a c d/\D.nx a c
 |.brk=>∃a c,dL X b a c d/\D.bk a c
 |.cont=>∃a c,dL X b a c d/\D.ct a c
 |.ret u=>∃v a c,dL X b a c d/\fK v u/\D.rt v c
def PE(X:Cx)(e:æ)(t:TE):Prop:=
 ∀a s b H Q,dL X a b H s->t b H Q->å (ä X.prog X.w) X.A (è e X.env) (EP X a b Q) X.xe s
def PT(X:Cx)(e:æ)(t:TT):Prop:=
 ∀a s b H Q,dL X a b H s->t b H Q->å (ä X.prog X.w) X.A (isTrue e X.env (è e X.env)) (TP X a b Q) X.xe s
def PW(X:Cx)(e:æ)(t:TT):Prop:=
 ∀b a s c H Q,dL X a c H s->t c H Q->å (ä X.prog X.w) X.A (isTrue e X.env b) (TP X a c Q) X.xe s
def PW.pt(h:PW X e t):PT X e t:=h _
def PA(X:Cx)(c:List æ)(t:TA):Prop:=
 ∀pos a s b H Q,dL X a b H s->t b H Q->å (ä X.prog X.w) X.A (spliced (j7 pos (bV c X.env))) (AP X a b Q) X.xe s
def PS(X:Cx)(st:é)(t:TS):Prop:=
 ∀a s b H D,dL X a b H s->t D b H->å (ä X.prog X.w) X.A (exec st X.env) (SP X a D) X.xe s
def DP(X:Cx)(st:List é)(t:TS):Prop:=
 ∀a s b H D,dL X a b H s->t D b H->å (ä X.prog X.w) X.A (execs st X.env) (SP X a D) X.xe s
def jE{d:Type}{t}{Q b:d->ã->Prop}{M A}{E:á->ã->Prop}{s}(h:å M A t Q E s)(c:∀a s,Q a s->b a s):å M A t b E s:=eN h c λ_ _ x=>x
section
variable{X:Cx}
def pD(i:Nat):TE:=λa H Q=>∃v,a[i]?=wz (wz v)/\Q v H
def tC(v:V):TE:=λ_ H Q=>Q v H
def Y3{i:Nat}{x:â}(g:X.N[i]?=wz x)(o:zd X.env.scope x)(hd:autoParam ((x==("__debug__":â))=false) zzy._auto_1)(d:autoParam ((x==("__classdict__":â))=false) zzy._auto_1):PE X (.Name x pos) (pD i):=by
 intro b s p H Q I h;refine Â h λv e h=>?_;refine Â I.loc λm n j=>?_;refine Â (j i x v g e o) λu r l=>?_;have fin:EP X b p Q u s:=⟨v,H,I,r,h⟩;rcases l with⟨hk,k⟩ | ⟨hk,c,f,a⟩
 ·exact jf (wpAny_loadName_local I.ok.kind hk n k fin) hd
 ·rcases hk with hk | hk
  ·exact jf (wpAny_loadName_cell I.ok.kind hk f a fin) hd
  ·exact jf (wpAny_loadName_free I.ok.kind hk f a fin d) hd
def nE:PE X (.Constant (.int i) j pos) (tC (.int i)):=λ_ _ _ H _ I h=>wpAny_Constant_int ⟨.int i,H,I.tok _,⟨_,gL⟩,h⟩
def Pl:PE X (.Constant (.bool b) j pos) (tC (.bl b)):=λ_ _ _ H _ I h=>Constant_bool ⟨.bl b,H,I,gL,h⟩
def Wq:PE X (.Constant .none j pos) (tC .non):=λ_ _ _ H _ I h=>Constant_none ⟨.non,H,I,gL,h⟩
def iU:PE X (.Constant (.str x) j pos) (tC (.str x)):=λ_ _ _ H _ I h=>Calls.Constant_str ⟨.str x,H,I.tok _,⟨_,gL⟩,h⟩
def Gl(X:Cx)(x:â):Prop:=X.env.kindOf x=wz .globalImplicit
def xG{E:á->ã->Prop}{x:â}{Q:á->ã->Prop}(I:dL X pins σ H s)(a:Gl X x)(b:X.mg x=wz u)(h:Q u s)
  (hd:autoParam ((x==("__debug__":â))=false) zzy._auto_1):å (ä X.prog X.w) X.A (è (.Name x pos) X.env) Q E s:=
 cg I.ok.kind a (Calls.loadGlobal_global (by rw[I.ok.glob];exact I.mod.glob.keeps I.bk) b h) hd
def zL{E:á->ã->Prop}{x:â}{Q:á->ã->Prop}(I:dL X pins σ H s)(c:Gl X x)(d:X.mg x=wy)(f:d9 x=wz u)(h:Q u s)
  (e:autoParam (x≠"__name__") zzy._auto_1) (hd:autoParam ((x==("__debug__":â))=false) zzy._auto_1):å (ä X.prog X.w) X.A (è (.Name x pos) X.env) Q E s:=by
 refine Â I.mod.blt λg a b=>?_;exact cg I.ok.kind c (Calls.loadGlobal_builtin (by rw[I.ok.glob];exact I.mod.glob.keeps I.bk) d (by rw[I.ok.blt];exact a.keeps I.bk) ((b x e).trans f) h) hd
def lM{x:â}(a:Gl X x)(b:X.mg x=wz u)(r:fK v u)(hd:autoParam ((x==("__debug__":â))=false) zzy._auto_1):PE X (.Name x pos) (tC v):=
 λ_ _ _ H _ I h=>xG I a b ⟨v,H,I,r,h⟩ hd
def K1{x:â}(a:Gl X x)(b:X.mg x=wy)(d:d9 x=wz u)(r:fK v u)(c:autoParam (x≠"__name__") zzy._auto_1)(hd:autoParam ((x==("__debug__":â))=false) zzy._auto_1):PE X (.Name x pos) (tC v):=
 λ_ _ _ H _ I h=>zL I a b d ⟨v,H,I,r,h⟩ c hd
variable{a b:æ}{f k:TE}{pos:Pos}
def PC(X:Cx)(h:CmpOp)(a b:æ)(t:TE):Prop:=
 ∀c s g H Q,dL X c g H s->t g H Q ->
  å (ä X.prog X.w) X.A (è a X.env) (λv d=>å (ä X.prog X.w) X.A (è b X.env) (λu e=>å (ä X.prog X.w) X.A (d6 h v u) (EP X c g Q) X.xe e) X.xe d) X.xe s
def ZT(b:æ)(h:op≠.In)(e:op≠.NotIn):i0 op b=false:=by
 have c:(op==CmpOp.In)=false:=by cases op<;>first | rfl | exact b9 gL h
 have d:(op==CmpOp.NotIn)=false:=by cases op<;>first | rfl | exact b9 gL e
 cases b<;>simp[i0,c,d]
def tB(t:TE):TT:=λe H Q=>t e H λx d=>∃c,x=.bl c/\Q c d
def YW(h:PC X op a b t)(g:autoParam (i0 op b=false) zzt._auto_1):PT X (.Compare a [op] [b] pos) (tB t):=by
 intro e s p H Q I hw;refine gu (jE (h e s p H _ I hw) λv r g=>jE g λu w l=>jE l λc s3 o=>?_) g;refine Í o λx i j n m=>?_;refine Â m λd z q=>?_;subst z;cases n;exact g7 ⟨i,j,q⟩
def PP{e:æ}(h:PE X e t)(l:autoParam (∀c,isTrue e X.env c=(do let v <- c;cr e.pos;ak [v] (truthy v))) zzx._auto_1):PT X e (tB t):=by
 intro g s p H Q I hw;refine isTrue_plain (jE (h g s p H _ I hw) λv r o=>?_) (l _);refine Í o λx i j n m=>?_;refine Â m λd z q=>?_;subst z;cases n;exact g7 ⟨i,j,q⟩
variable{g n:TT}{jM:List æ}
def Ma(t u:TT):TT:=λe H Q=>t e H λc d=>if c=wx then u e d Q else Q ww d
def Iv(t u:TT):TT:=λe H Q=>t e H λc d=>if c=wx then Q wx d else u e d Q
def Ld(t:TT):TT:=λe H Q=>t e H λc d=>Q (!c) d
def aDy(i:PT X a g):PW X (.BoolOp .And [a] pos) g:=by
 intro m d s j H Q I h;refine isTrue_and (jE (i d s j H Q I h) λc l e=>?_)
 cases c with
 |true=>exact isTrue_and_nil e
 |false=>exact e
def YT(i:PT X a g):PW X (.BoolOp .Or [a] pos) g:=by
 intro m d s j H Q I h;refine isTrue_or (jE (i d s j H Q I h) λc l e=>?_)
 cases c with
 |false=>exact isTrue_or_nil e
 |true=>exact e
def Wu(m:PT X a g)(hb:PW X (.BoolOp .And (b::jM) pos) n):PW X (.BoolOp .And (a::b::jM) pos) (Ma g n):=by
 intro p d s l H Q I h;refine isTrue_and (jE (m d s l H _ I h) λc o q=>?_);refine Â q λe i j=>?_
 cases c with
 |true=>exact hb p d o l e Q i j
 |false=>exact⟨e,i,j⟩
def Fk(m:PT X a g)(hb:PW X (.BoolOp .Or (b::jM) pos) n):PW X (.BoolOp .Or (a::b::jM) pos) (Iv g n):=by
 intro p d s l H Q I h;refine isTrue_or (jE (m d s l H _ I h) λc o q=>?_);refine Â q λe i j=>?_
 cases c with
 |true=>exact⟨e,i,j⟩
 |false=>exact hb p d o l e Q i j
def YV(i:PT X a g):PT X (.UnaryOp .Not a pos) (Ld g):=by
 intro d s j H Q I h;exact isTrue_not (i d s j H (λc e=>Q (!c) e) I h)
def Uu(f k:TE):TE:=λe H Q=>f e H λx d=>∃c,x=.bl c/\if c=wx then k e d Q else Q (.bl ww) d
def Le(f k:TE):TE:=λe H Q=>f e H λx d=>∃c,x=.bl c/\if c=wx then Q (.bl wx) d else k e d Q
def Uw(f:TE):TE:=λe H Q=>f e H λx d=>∃c,x=.bl c/\Q (.bl (!c)) d
def Y6(h:PE X a t):PE X (.BoolOp op [a] pos) t:=λc s d H Q I hw=>BoolOp_one (h c s d H Q I hw)
def ZB(m:PE X a f)(hb:PE X (.BoolOp .And (b::jM) pos) k):PE X (.BoolOp .And (a::b::jM) pos) (Uu f k):=by
 intro d s l H Q I h;refine BoolOp_and (jE (m d s l H _ I h) λv p q=>?_);refine Í q λx i j o e=>?_;obtain⟨c,rfl,e⟩:=e;cases o;refine g7 ?_
 cases c with
 |true=>exact hb d p l i Q j e
 |false=>exact⟨.bl ww,i,j,gL,e⟩
def Pn(m:PE X a f)(hb:PE X (.BoolOp .Or (b::jM) pos) k):PE X (.BoolOp .Or (a::b::jM) pos) (Le f k):=by
 intro d s l H Q I h;refine BoolOp_or (jE (m d s l H _ I h) λv p q=>?_);refine Í q λx i j o e=>?_;obtain⟨c,rfl,e⟩:=e;cases o;refine g7 ?_
 cases c with
 |false=>exact hb d p l i Q j e
 |true=>exact⟨.bl wx,i,j,gL,e⟩
def Wr(l:PE X a f):PE X (.UnaryOp .Not a pos) (Uw f):=by
 intro d s p H Q I h;refine UnaryOp_ (jE (l d s p H _ I h) λv q o=>?_);refine Í o λx i j m e=>?_;obtain⟨c,rfl,e⟩:=e;cases m;exact not_of (g7 ⟨.bl (!c),i,j,gL,e⟩)
def Iw(t:TT)(f k:TE):TE:=λd H Q=>t d H λc e=>if c=wx then f d e Q else k d e Q
def Y8(q:PT X c g)(p:PE X a f)(hb:PE X b k):PE X (.IfExp c a b pos) (Iw g f k):=by
 intro e s i H Q I h;refine wpAny_IfExp (jE (q e s i H _ I h) λd o r=>?_);refine Â r λj l m=>?_
 cases d with
 |true=>exact p e o i j Q l m
 |false=>exact hb e o i j Q l m
end
def pE(K:aH)(H:Hp)(a:à)(c:List V):Prop:=
 Rd H a (.lst c) \/
  ∃o b n,K.lookup a=wz o/\o.cls=.type "list"/\o.dict=wy/\o.data=.seq b n/\b.size<=bN/\fN c b.toList
def tI(K:aH)(H:Hp)(a:à)(c:List V):Prop:=
 Rd H a (.tup c) \/
  ∃o b n,K.lookup a=wz o/\o.cls=.type "tuple"/\o.dict=wy/\o.data=.seq b n/\b.size<=bN/\fN c b.toList
noncomputable def Jt:á->Option V
|.none=>wz .non
|.bool b=>wz (.bl b)
|.int i _=>wz (.int i)
|.str x _=>wz (.str x)
|.bytes b _=>wz (.byt b)
|.float b _=>wz (.flt b)
|.ref a=>wz (.ref a)
|.type n=>wz (.ty n)
|_=>wy
def fK.abs(r:fK x u):Jt u=wz x:=by
 cases x with
 |non=>cases r;rfl
 |bl _=>cases r;rfl
 |int _=>refine Ã r λt z=>?_;subst z;rfl
 |str _=>refine Ã r λt z=>?_;subst z;rfl
 |byt _=>refine Ã r λt z=>?_;subst z;rfl
 |flt _=>refine Ã r λt z=>?_;subst z;rfl
 |ref _=>cases r;rfl
 |ty _=>cases r;rfl
theorem fK.inj(r:fK x u)(q:fK y u):x=y:=c7 (r.abs.symm.trans q.abs)
theorem fN.inj{xs ys us}(h:fN xs us)(g:fN ys us):xs=ys:=by
 induction h generalizing ys with
 |nil=>cases g;rfl
 |cons r t n=>cases g with|cons a b=>rw[r.inj a,n b]
section
variable{X:Cx}{b:List (à×Obj)}{g:St}{H:Hp}{s:ã}{a:à}{f i:List V}
def pE.of{K}(h:H a=wz (.lst f)):pE K H a f:=.inl (.inl h)
def tI.of{K}(h:H a=wz (.tup f)):tI K H a f:=.inl (.inl h)
def dL.list(I:dL X b g H s)(h:pE X.K H a f):∃c,fN f c/\PlainL s.heap a c.toArray/\f.length<=bN:=by
 rcases h with h | ⟨o,c,n,j,d,hd,k,l,r⟩
 ·refine Ç (h.ok I.hok) λz c n r e=>?_;exact⟨c,r,⟨_,n,e,gL,gL,gL⟩,z⟩
 ·refine⟨c.toList,r,⟨o,n,I.kIn a o j,d,hd,by simpa using k⟩,?_⟩;have e:=r.length;simp only[eZ]at e;lia
def dL.tuple(I:dL X b g H s)(h:tI X.K H a f):∃c,fN f c/\jh s.heap a c.toArray/\f.length<=bN:=by
 rcases h with h | ⟨o,c,n,j,d,_,k,l,r⟩
 ·refine È (h.ok I.hok) λz c r p=>?_;exact⟨c,r,p.tup,z⟩
 ·refine⟨c.toList,r,⟨o,I.kIn a o j,d,n,by simpa using k⟩,?_⟩;have e:=r.length;simp only[eZ]at e;lia
def dL.tupleN(I:dL X b g H s)(h:tI X.K H a f):∃o,s.heap.get? a=wz o/\o.cls=.type "tuple"/\o.dict=none:=by
 rcases h with h | ⟨o,j,n,l,k,hd,_⟩
 ·obtain⟨z,j,r,⟨o,e,c,n,_,d⟩⟩:=h.ok I.hok;exact⟨o,e,c,d⟩
 ·exact⟨o,I.kIn a o l,k,hd⟩
def dL.list_inj(I:dL X b g H s)(h:pE X.K H a f)(p:pE X.K H a i):f=i:=by
 obtain⟨j,r,⟨o,n,e,_,_,d⟩,_⟩:=I.list h;obtain⟨c,q,⟨u,t,l,_,_,k⟩,_⟩:=I.list p;rw[e]at l;cases l;rw[d]at k;injection k with m _
 have:j=c:=by simpa using d8 aL1 m
 subst this;exact r.inj q
def dL.tuple_inj(I:dL X b g H s)(h:tI X.K H a f)(p:tI X.K H a i):f=i:=by
 obtain⟨j,r,⟨o,e,_,n,d⟩,_⟩:=I.tuple h;obtain⟨c,q,⟨u,l,_,t,k⟩,_⟩:=I.tuple p;rw[e]at l;cases l;rw[d]at k;injection k with m _
 have:j=c:=by simpa using d8 aL1 m
 subst this;exact r.inj q
end
noncomputable abbrev Cx.wish(X:Cx)(E:á->ã->Prop):Cx:={ X with xe:=E }
noncomputable abbrev Cx.nox(X:Cx):Cx:=X.wish λ_ _=>False
theorem Cx.Ok.wish{X:Cx}(ok:X.Ok)(E:á->ã->Prop):(X.wish E).Ok:=
 ⟨ok.mod,ok.kind,ok.glob,ok.blt,ok.above,ok.inj,ok.has,ok.cab,ok.hd,ok.frames,ok.stk,ok.exf,ok.bs,ok.bsz,ok.noex,ok.exfs,ok.funs,ok.frf,ok.tab⟩
def Cx.Ok.unwish{X:Cx}{E:á->ã->Prop}(ok:(X.wish E).Ok):X.Ok:=
 ⟨ok.mod,ok.kind,ok.glob,ok.blt,ok.above,ok.inj,ok.has,ok.cab,ok.hd,ok.frames,ok.stk,ok.exf,ok.bs,ok.bsz,ok.noex,ok.exfs,ok.funs,ok.frf,ok.tab⟩
section
variable{X:Cx}{a:List (à×Obj)}{b:St}{H:Hp}{s:ã}{E:á->ã->Prop}
theorem dL.wish(I:dL X a b H s)(E:á->ã->Prop):dL (X.wish E) a b H s:=⟨I.ok.wish E,I.os,I.bare,I.base,I.loc,I.cell,I.free,I.freeC,I.pin,I.hok,I.len⟩
theorem dL.unwish(I:dL (X.wish E) a b H s):dL X a b H s:=⟨I.ok.unwish,I.os,I.bare,I.base,I.loc,I.cell,I.free,I.freeC,I.pin,I.hok,I.len⟩
theorem SP.unwish{D}(h:SP (X.wish E) a D f s'):SP X a D f s':=by
 cases f with
 |next=>refine Î h λc d I q=>?_;exact⟨c,d,I.unwish,q⟩
 |brk=>refine Î h λc d I q=>?_;exact⟨c,d,I.unwish,q⟩
 |cont=>refine Î h λc d I q=>?_;exact⟨c,d,I.unwish,q⟩
 |ret u=>refine Ð h λv c d I r q=>?_;exact⟨v,c,d,I.unwish,r,q⟩
theorem DP.nox{st}(h:DP X.nox st t):DP X st t:=λa s b H D I hw=>
 eN (h a s b H D (I.wish _) hw) (λ_ _ q=>q.unwish) λ_ _ z=>h9 z
end
section
variable{X:Cx}{st:é}{jM:List é}{t u:TS}{e:æ}{g:TE}{pos:Pos}
def Uv:TS:=λD a H=>D.nx a H
def PB(t u:TS):TS:=λD a H=>t { D with nx:=u D } a H
def SA:DP X [] Uv:=λ_ _ a H _ I h=>v0 ⟨a,H,I,h⟩
def nK(i:PS X st t)(j:DP X jM u):DP X (st::jM) (PB t u):=by
 intro a s l H D I h;refine dr (jE (i a s l H { D with nx:=u D } I h) λf k q=>?_)
 cases f with
 |next=>
  refine Î q λb c d q=>?_;exact j a k b c D d q
 |ret v=>exact q
 |brk=>exact q
 |cont=>exact q
def D6(b:PS X st t):DP X [st] t:=by
 intro a s c H D I h;refine dr (jE (b a s c H D I h) λf d q=>?_)
 cases f with
 |next=>exact v0 q
 |ret v=>exact q
 |brk=>exact q
 |cont=>exact q
def dL.quiet(I:dL X pins σ H s):interactive X.env=false:=by simp[interactive,I.ok.kind]
def HV(g:TE):TS:=λD a H=>g a H λ_ b=>D.nx a b
def gK(f:PE X e g)(i:autoParam (mH e wy pos.line X.env=pure false) zzz._auto_1):PS X (.Expr e pos) (HV g):=by
 intro a s b H D I h;exact wpAny_Expr_any (jE (f a s b H _ I h) λv l z=>by refine Í z λx c d k j=>?_;exact ⟨b,c,d,j⟩) I.quiet i
def Lf(g:TE):TS:=λD a H=>g a H D.rt
def B0(f:PE X e g):PS X (.Return (wz e) pos) (Lf g):=by
 intro a s b H D I h;exact wpAny_Return_some (jE (f a s b H _ I h) λv k z=>by refine Í z λx c d j i=>?_;exact ⟨x,b,c,d,j,i⟩)
def Mb(c:TT)(t u:TS):TS:=λD a H=>c a H λb d=>if b=wx then t D a d else u D a d
def Fi(o:PT X c tc)(n:DP X a t)(hb:DP X b u):PS X (.If c a b pos) (Mb tc t u):=by
 intro f s i H D I h;refine wpAny_If (jE (o f s i H _ I h) λd m p=>?_);refine Â p λj k l=>?_
 cases d with
 |true=>exact n f m i j D k l
 |false=>exact hb f m i j D k l
end
abbrev TG:=V->St->Hp->(St->Hp->Prop)->Prop
abbrev xw:=List V->St->Hp->(St->Hp->Prop)->Prop
def PG(X:Cx)(a:æ)(t:TG):Prop:=
 ∀b s e H v u Q,dL X b e H s->fK v u->t v e H Q ->
  å (ä X.prog X.w) X.A (ir a X.env u) (λ_ f=>∃c d,dL X b c d f/\Q c d) X.xe s
def zh(X:Cx)(g:List æ)(t:xw):Prop:=
 ∀a s e H vs d Q,dL X a e H s->fN vs d->t vs e H Q ->
  å (ä X.prog X.w) X.A (assignInOrder ((ag g X.env).map (·.2)) d) (λ_ f=>∃b c,dL X a b c f/\Q b c) X.xe s
abbrev Cn:=V->V->V->Hp->(Hp->Prop)->Prop
def Ck(X:Cx)(t:Cn):Prop:=
 ∀a s e H o i v d c u Q,dL X a e H s->fK o d->fK i c->fK v u->t o i v H Q ->
  å (ä X.prog X.w) X.A (setItem d c u) (λ_ f=>∃b,dL X a e b f/\Q b) X.xe s
section
variable{X:Cx}{pos:Pos}
def nD(i:Nat):TG:=λv a H Q=>Q (a.set i (wz v)) H
def SF{i:Nat}(c:X.N.Nodup)(e:X.N[i]?=wz x)(f:WU X.env.scope x)(d:autoParam (X.fn x=wx\/X.env.scope.names.lookup x=wz .local) zzn._auto_1):PG X (.Name x pos) (nD i):=by
 intro a s j H v u Q I r h;exact jz (EX I c e f r (λg b=>⟨_,H,b,h⟩) d)
def Aj:xw:=λvs a H Q=>vs=[]/\Q a H
def JH(t:TG)(u:xw):xw:=λvs c H Q=>∃v r,vs=v::r/\t v c H λa b=>u r a b Q
def nO:zh X [] Aj:=by
 intro a s b H vs c Q I r h;obtain⟨e,h⟩:=h;subst e;cases r;exact assignInOrder_nil ⟨b,H,I,h⟩
def fB(g:PG X e t)(i:zh X es u)
  (j:autoParam ((ag (e::es) X.env).map (·.2)=ir e X.env::(ag es X.env).map (·.2)) zzz._auto_1):zh X (e::es) (JH t u):=by
 intro a s o H vs p Q I r h;obtain⟨v,q,f,h⟩:=h;subst f
 cases r with
 |cons r l=>
  rw[j];refine assignInOrder_cons (jE (g a s o H _ _ _ I r h) λ_ m n=>?_);refine Î n λb c d k=>?_;exact i a m b c _ _ Q d l k
def Ak(K:aH)(n:Nat)(t:xw):TG:=λv c H Q=>∃a b,v=.ref a/\tI K H a b/\b.length=n/\t b c H Q
def qP{k:Nat}{n:Nat}(i:X.calm=wx)(h:zh X es t)
  (l:autoParam ((ag es X.env).length=n) zzz._auto_1) (d:autoParam ((ag es X.env).findIdx? (·.1)=none) zzz._auto_1):PG X (.Tuple es k pos) (Ak X.K n t):=by
 intro c s y H v u Q I r hw;obtain⟨a,x,g,m,j,hw⟩:=hw;subst g;cases r;refine Å (I.tuple m) λw f p A=>?_;refine assign_Tuple_tuple (I.ok.hd i) p (by simp[l,<- j,f.length]) d λz q=>?_;exact h c _ y H x _ Q (I.kept (t':=s.toks) λb o e=>q b o (cU (bC e)) e) (by simpa using f) hw
def Cs(to d:TE)(t:Cn):TG:=λv a H Q=>to a H λo b=>d a b λi c=>t o i v c λH3=>Q a H3
def PV{to}(p:PE X o to)(n:PE X i ti)(q:Ck X t)
  (m:autoParam (∀v,ir (.Subscript o i pos) X.env v=(do
   let b <- ak [v] (è o X.env)
   let c <- ak [v,b] (è i X.env)
   cr pos
   ak [v,b,c] (setItem b c v)
   release [v,b,c] [])) zzx._auto_1):PG X (.Subscript o i pos) (Cs to ti t):=by
 intro a s e H v u Q I r h;rw[m];refine aG (n6 (jE (p a s e H _ I h) λb E d=>?_));refine Í d λx f j B w=>?_;refine aG (n6 (jE (n a E e f _ j w) λc F d=>?_));refine Í d λy g k C z=>?_;refine aG (fu (aG (n6 (jE (q a F e g x y v b c u _ k B C r z) λ_ s3 d=>?_))));refine Â d λH3 l A=>?_;exact wpAny_release ⟨e,H3,l,A⟩
def xT(c:TE)(g:TG):TS:=λD a H=>c a H λx b=>g x a b D.nx
def B1(i:PE X e te)(j:PG X tg g)(k:autoParam (swapsWithSole [tg] e pos.line X.env=pure false) zzz._auto_1)(hw:autoParam (swappedStores [tg] e X.env=pure none) zzz._auto_1)
  (f:autoParam ((ag [tg] X.env).map (·.2)=[ir tg X.env]) zzz._auto_1):PS X (.Assign [tg] e pos) (xT te g):=by
 intro a s b H D I h;refine wpAny_Assign_stores (jE (i a s b H _ I h) λv n o=>?_) k hw;refine Í o λx c d m l=>?_;rw[f];exact jE (j a n b c x v _ d m l) λ_ p q=>q
def mD{i:Nat}(f:X.N.Nodup)(k:X.N[i]?=wz x)(m:WU X.env.scope x)(g:PE X e te)(l:autoParam (mH e (wz (.Name x pos')) pos.line X.env=pure false) zzz._auto_1)(j:autoParam (X.fn x=wx\/X.env.scope.names.lookup x=wz .local) zzn._auto_1) :
  PS X (.Assign [.Name x pos'] e pos) (xT te (nD i)):=by
 intro a s q H D I h;refine jy (jE (g a s q H _ I h) λv r p=>?_) l;refine Í p λy b c o n=>?_;exact EX c f k m o (λt d=>⟨_,b,d,n⟩) j
end
section
variable{X:Cx}{pos:Pos}
def XS(c:TT)(h:TS):TS:=λD a H=>∃W:Nat->St->Hp->Prop,(∃m,W m a H)/\∀m a H,W m a H ->
 c a H λb f=>if b=wx then∃N,(∀d e,N d e->∃g,g<m/\W g d e)/\h { D with nx:=N,ct:=N,bk:=D.nx } a f else D.nx a f
def FD(x:PassesOwn (ä X.prog X.w) X.A X.env X.xe)(z:PT X c tc)(hb:DP X body tb):PS X (.While c body [] pos) (XS tc tb):=by
 intro a s L H D I h;obtain⟨W,⟨B,G⟩,turn⟩:=h;refine wpAny_While (codeAny_whileLoop (λn C=>∃g p,dL X a g p C/\W n g p) ?_ B ⟨L,H,I,G⟩);rintro n E ⟨e,q,y,J⟩;refine m9 x (jE (z a E e q _ y (turn n e q J)) λb F K=>?_);refine Â K λr t i=>?_
 cases b with
 |true=>
  refine Â i λN u i=>?_;rw[b7 rfl];refine m9 x (jE (hb a F e r _ t i) λf s3 j=>?_)
  cases f with
  |next=>
   refine Î j λd H3 k n3=>?_;obtain⟨m,l,o⟩:=u d H3 n3;exact⟨m,l,d,H3,k,o⟩
  |cont=>
   refine Î j λd H3 k n3=>?_;obtain⟨m,l,o⟩:=u d H3 n3;exact⟨m,l,d,H3,k,o⟩
  |brk=>exact j
  |ret v=>exact j
 |false=>
  rw[a8 bT];exact v0 ⟨e,r,t,i⟩
end
structure It where
 go:Nat->Hp->Prop
 yld:Nat->Hp->V->Hp->Prop
 stop:Nat->Hp->Prop
def DR(X:Cx)(a:List (à×Obj))(H:Hp)(b:à):Prop:=
 H b=wy/\b≠X.env.locals/\b∉X.fs/\(b∈X.ex\/X.s₀.heap.objs.size<=b)/\(∀x c,X.env.cells.lookup x=wz c->c≠b)/\∀p∈X.pn++a,p.1≠b
def dL.fpOk{s:ã}{b:à}(I:dL X pins σ H s)(hb:s.heap.objs.size<=b)(a:H' b=wy):DR X pins H' b:=by
 refine⟨a,iP (cA I.lt hb),I.nofs hb,.inr (bK I.sz hb),λx c e z=>?_,λp d z=>?_⟩
 ·obtain⟨v,q⟩:=I.cell x c e;exact b9 (cA q.lt (by rw[z];exact hb)) (fF _)
 ·exact b9 (cA (bC (I.pin p d).1) (by rw[z];exact hb)) (fF _)
structure OJ(P:cO)(w:f8)(K:aH)(tg:æ)(J:It)(fp:List à)(it:à)(tn:Nat->ç->Prop):Prop where
 mem:it∈fp
 obj:∀i h,tn i h->∀b∈fp,∃o,h.get? b=wz o/\∀v,o.data≠.cell v
 keep:∀i h h',tn i h->(∀b∈fp,∀o,h.get? b=wz o->h'.get? b=wz o)->tn i h'
 item:∀(X:Cx),X.prog=P->X.w=w->X.K=K->X.calm=wx->∀(i:Nat)pins(s:ã)σ H E,dL X pins σ H s->(∀b∈fp,DR X pins H b)->tn i s.heap->J.go i H ->
  å (ä P w) X.A (jb (.ref it)) (λr s1=>∃u,r=wz u /\
   å (ä P w) X.A (aq tg (.ref it) u) (λ_ s2=>∃x H',dL X pins σ H' s2/\fK x u/\J.yld i H x H'/\tn (i+1) s2.heap/\∀b∈fp,H' b=wy) E s1) E s
 done:∀(X:Cx),X.prog=P->X.w=w->X.K=K->X.calm=wx->∀(i:Nat)pins(s:ã)σ H E,dL X pins σ H s->(∀b∈fp,DR X pins H b)->tn i s.heap->J.stop i H ->
  å (ä P w) X.A (jb (.ref it)) (λr s1=>r=wy/\dL X pins σ H s1) E s
 self:∀A(i:Nat)(s:ã)Q E,tn i s.heap->Q (.ref it) s->å (ä P w) A (ja (.ref it)) Q E s
abbrev TI:=St->Hp->(It->Hp->Prop)->Prop
def Br(X:Cx)(a:List (à×Obj))(j:St)(i:æ)(R:It->Hp->Prop)(d:á)(g:ã):Prop:=
 ∃f e h J c,d=.ref f/\dL X a j c g/\OJ X.prog X.w X.K i J e f h/\h 0 g.heap/\(∀b∈e,DR X a c b)/\R J c
def PI(X:Cx)(d iter:æ)(e:TI):Prop:=
 ∀a s b H R,dL X a b H s->e b H R ->
  å (ä X.prog X.w) X.A (è iter X.env) (λv c=>å (ä X.prog X.w) X.A (ja v) (Br X a b d R) X.xe c) X.xe s
def Bh{E:á->ã->Prop}{s:ã}{b:à}{o:Obj}{Q:Unit->ã->Prop}(e:s.heap.get? b=wz o)(c:o.cls=.type n)(hd:o.data=.fields vs)
  (d:["enumerate","zip","dict_itemiterator","dict_reverseitemiterator","odict_iterator","itertools.zip_longest","itertools.pairwise"].contains n=ww) (a:Q () s):å M A (aq tg (.ref b) u) Q E s:=by
 cases tg<;>first
  |exact bB a
  | (cases u<;>first
    |exact bB a
    | (refine aG (jg e ?_)
       rw[c,hd];show å M A (if(["enumerate","zip","dict_itemiterator","dict_reverseitemiterator","odict_iterator","itertools.zip_longest","itertools.pairwise"].contains n&&vs[0]?==wz (t4 _))=wx then _ else _) Q E s;rw[a8 (by lia)];exact bB a))
noncomputable def Bu(K:aH)(a:à):It:=
 ⟨λi H=>∃b x,pE K H a b/\b[i]?=wz x,λi H x c=>c=H/\∀b,pE K H a b->b[i]?=wz x,λi H=>∃b,pE K H a b/\b.length<=i⟩
noncomputable def Bs(K:aH)(a:à):It:=
 ⟨λi H=>∃b x,tI K H a b/\b[i]?=wz x,λi H x c=>c=H/\∀b,tI K H a b->b[i]?=wz x,λi H=>∃b,tI K H a b/\b.length<=i⟩
noncomputable def Bt(lo:Int)(n:Nat):It:=⟨λi _=>i<n,λi H x a=>a=H/\x=.int (lo+i),λi _=>n<=i⟩
def UN{K}(a it:à):OJ P w K tg (Bu K a) [it] it (λi h=>h.IsListIter it a i) where
 mem:=by simp
 obj:=λi h st b hb=>by
  have e:b=it:=by simpa using hb
  subst e;refine Å st λo e c d=>?_;exact⟨o,e,λv z=>by rw[d]at z;cases z⟩
 keep:=λi h h' st k=>st.at λo e=>k it gC o e
 item:=by
  intro X hP hw hK hc i pins s σ H E I hf st hg;subst hP hw hK;refine Î hg λxs x hq hx=>?_;refine Å (I.list hq) λbt rv p hz=>?_;refine Â (rv.get hx) λu hu ru=>?_;refine Ò (hf it gC) λf0 f1 f2 f3 f4 f5=>?_;refine wpAny_pyNext_list_item st p.isList (by simpa using hu) λh' gs sb=>?_;refine Å (id gs) λo e c d=>?_;exact⟨u,gL,Bh e c d cS ⟨x,H,(I.turned (t':=s.toks) (λb o hb e=>(sb.2 b hb).trans e) f0 f1 f3 f4 f5),ru,⟨gL,λys hy=>by rw[I.list_inj hy hq];exact hx⟩,gs,λb hb=>(hf b hb).1⟩⟩
 done:=by
  intro X hP hw hK hc i pins s σ H E I hf st hg;subst hP hw hK;refine Â hg λxs hq hx=>?_;refine Å (I.list hq) λbt rv p hz=>?_;refine Ò (hf it gC) λf0 f1 f2 f3 f4 f5=>?_;have hl:=rv.length;exact wpAny_pyNext_list_end (I.ok.hd hc) st p.isList (by simp;lia) λh' eb=>⟨gL,I.turned (λb o hb e=>eb b o hb e) f0 f1 f3 f4 f5⟩
 self:=λ_ _ _ _ _ st h=>wpAny_pyIter_listiter st h
def O7{K}(a it:à):OJ P w K tg (Bs K a) [it] it (λi h=>h.IsTupleIter it a i) where
 mem:=by simp
 obj:=λi h st b hb=>by
  have e:b=it:=by simpa using hb
  subst e;refine Å st λo e c d=>?_;grind
 keep:=λi h h' st k=>st.at λo e=>k it gC o e
 item:=by
  intro X hP hw hK hc i pins s σ H E I hf st hg;subst hP hw hK;refine Î hg λxs x hq hx=>?_;refine Å (I.tuple hq) λbt rv p hz=>?_;refine Â (rv.get hx) λu hu ru=>?_;refine Ò (hf it gC) λf0 f1 f2 f3 f4 f5=>?_;refine wpAny_pyNext_tuple_item st (show s.heap.IsTuple a bt.toArray from p) (by simpa using hu) λh' gs sb=>?_;refine Å (id gs) λo e c d=>?_;exact⟨u,gL,Bh e c d cS ⟨x,H,(I.turned (t':=s.toks) (λb o hb e=>(sb.2 b hb).trans e) f0 f1 f3 f4 f5),ru,⟨gL,λys hy=>by rw[I.tuple_inj hy hq];exact hx⟩,gs,λb hb=>(hf b hb).1⟩⟩
 done:=by
  intro X hP hw hK hc i pins s σ H E I hf st hg;subst hP hw hK;refine Â hg λxs hq hx=>?_;refine Å (I.tuple hq) λbt rv p hz=>?_;refine Ò (hf it gC) λf0 f1 f2 f3 f4 f5=>?_;have hl:=rv.length;exact wpAny_pyNext_tuple_end (I.ok.hd hc) st (show s.heap.IsTuple a bt.toArray from p) (by simp;lia) λh' eb=>⟨gL,I.turned (λb o hb e=>eb b o hb e) f0 f1 f3 f4 f5⟩
 self:=λ_ _ _ _ _ st h=>wpAny_pyIter_tupleiter st h
def O8{K}(it:à)(lo:Int)(n:Nat):OJ P w K tg (Bt lo n) [it] it (λi h=>IsRangeIter h it (lo+(i:Nat)*1) ((n:Int)-(i:Nat)) 1) where
 mem:=by simp
 obj:=λi h st b hb=>by
  grind
 keep:=λi h h' st k=>k it gC _ st
 item:=by
  intro X hP hw hK hc i pins s σ H E I hf st hg;subst hP hw hK;refine Ò (hf it gC) λf0 f1 f2 f3 f4 f5=>?_;refine(Walks.range (prog:=X.prog) (w:=X.w) (I.ok.hd hc) it lo 1 n).item i s _ _ hg st λv h' tk hv gs kk=>?_;refine Ã hv λt y=>?_;subst y;refine⟨_,gL,Bh gs gL gL cS ⟨.int (lo+i),H,(I.turned (λb o hb e=>kk b o (by grind) e) f0 f1 f3 f4 f5),⟨t,?_⟩,⟨gL,gL⟩,gs,λb hb=>(hf b hb).1⟩⟩;rw[Int.mul_one]
 done:=by
  intro X hP hw hK hc i pins s σ H E I hf st hg;refine Ò (hf it gC) λf0 f1 f2 f3 f4 f5=>?_;exact wpAny_pyNext_range_end (I.ok.hd hc) st (by have:n<=i:=hg;lia) λh' eb=>⟨gL,I.turned (λb o hb e=>eb b o hb e) f0 f1 f3 f4 f5⟩
 self:=λ_ _ _ _ _ st h=>wpAny_pyIter_rangeiter st h
section
variable{X:Cx}{c:æ}
def YL{s:ã}{R:It->Hp->Prop}{E:á->ã->Prop}{lo a:Int}{f:Nat}(I:dL X pins σ H s)(i:-(2^62)<=lo)(j:lo<2^62)(k:-(2^62)<=a)(l:a<2^62)
  (q:R (Bt lo (a-lo).toNat) H):å (ä X.prog X.w) X.A (ja (.ref s.heap.objs.size)) (Br X pins σ c R) E { s with heap:=s.heap.push { cls:=.type "range",data:=.fields #[.int lo t,.int a u,.int 1 v] },toks:=f }:=by
 refine wpAny_pyIter_range (IsRange.new ..) (small_one i j k l) ?_;have d:dL X pins σ H { s with heap:=s.heap.push { cls:=.type "range",data:=.fields #[.int lo t,.int a u,.int 1 v] },toks:=f }:=I.kept λb o e=>aK _ e
 refine⟨(s.heap.push { cls:=.type "range",data:=.fields #[.int lo t,.int a u,.int 1 v] }).objs.size,[(s.heap.push { cls:=.type "range",data:=.fields #[.int lo t,.int a u,.int 1 v] }).objs.size],_,_,H,gL,
  d.kept λb o e=>aK _ e,O8 _ lo (a-lo).toNat,?_,λb hb=>?_,q⟩
 ·have g:lo+((0:Nat):Int)*1=lo:=by simp
  have h:(((a-lo).toNat:Nat):Int)-((0:Nat):Int)=Builtin.Range.rangeSize lo a 1:=by rw[rangeSize_one];split<;>lia
  rw[g,h];exact bA _ gL
 ·have e:b=(s.heap.push { cls:=.type "range",data:=.fields #[.int lo t,.int a u,.int 1 v] }).objs.size:=by simpa using hb
  subst e;exact d.fpOk (aP _) (d.hok.fresh (aP _))
def Ec(b:TA):TI:=λd H R=>b d H λvs a=>∃j,vs=[.int j]/\-(2^62)<=j/\j<2^62/\R (Bt 0 j.toNat) a
def rE(i:Gl X "range")(k:X.mg "range"=wy)(g:PA X [a] ta)(l:autoParam (bV [a] X.env=[(ww,è a X.env)]) zzz._auto_1):PI X c (.Call (.Name "range" p) [a] [] pos) (Ec ta):=by
 intro b s v H R I h;refine Call_ (zL I i k boot_range (l3 (jE (g pos b s v H _ I h) λy x u=>?_) l gL));refine Í u λvs w f n d=>?_;obtain⟨j,e,d,m,q⟩:=d;subst e
 cases n with
 |cons r o=>
  cases o;refine Ã r λt z=>?_;subst z;exact call_range_1 (YL f eH eH d m (by simpa using q))
def Bd(l:TI)(g:TG)(k:TS):TS:=λD a H=>l a H λJ h=>∃W:Nat->Nat->St->Hp->Prop,(∃m,W 0 m a h)/\∀i m a H,W i m a H ->
 (J.stop i H/\D.nx a H)\/(J.go i H/\∃N,(∀d b,N d b->∃f,f<m/\W (i+1) f d b)/\∀x b,J.yld i H x b->g x a b λe j=>k { D with nx:=N,ct:=N,bk:=D.nx } e j)
noncomputable def FG(a:List à)(h:ç):List (à×Obj):=a.filterMap λb=>(h.get? b).map λo=>(b,o)
def uT{h:ç}{b:à}(hb:b∈fp)(e:h.get? b=wz o):(b,o)∈FG fp h:=W1.mpr ⟨b,hb,by rw[e];rfl⟩
def U8{h:ç}{p:à×Obj}(d:p∈FG fp h):p.1∈fp/\h.get? p.1=wz p.2:=by
 refine Â (W1.mp d) λb hb e=>?_
 cases q:h.get? b with
 |none=>grind
 |some o=>
  grind
def dL.pinned{s:ã}(I:dL X pins σ H s)(h:∀b∈fp,DR X pins H b)(i:∀b∈fp,∃o,s.heap.get? b=wz o/\∀v,o.data≠.cell v):dL X (pins++FG fp s.heap) σ H s:=
 I.pins_of λp j=>(bM.mp j).elim (λz=>I.pin p (cG _ z)) λz=>by
  refine Ä (U8 z) λhb e=>?_;refine Ô (h p.1 hb) λf f1 g _=>?_;grind
def dL.unpinned(I:dL X (pins++pl) σ H s):dL X pins σ H s:=I.pins_of λp a=>I.pin p (cG _ (eG _ a))
def YZ{iter}(G:PassesOwn (ä X.prog X.w) X.A X.env X.xe)(Z:X.calm=wx)(hi:PI X c iter wi)(hg:PG X c g)(hb:DP X body tb)
  (hs:autoParam (∀x,j1 iter X.env x=pure x) zzx._auto_1):PS X (.For c iter body [] pos) (Bd wi g tb):=by
 intro a s σ H D I h;refine wpAny_For (jE (hi a s σ H _ I h) λv s1 h1=>jE h1 λot s2 h2=>?_) hs;obtain⟨it,E,tn,J,H2,e,I2,T,Q,Y,W,⟨m0,w0⟩,turn⟩:=h2;subst e
 -- what stays wx of the iterator's objects through the gz
 have p:∀{y:Hp},(∀b∈E,y b=wy)->∀b∈E,DR X a y b:=λhn b hb=>⟨hn b hb,(Y b hb).2⟩;refine codeAny_forLoop_any (λn s'=>∃i q y,dL X a q y s'/\tn i s'.heap/\(∀b∈E,y b=wy)/\W i n q y) ?_ m0 ⟨0,σ,H2,I2,Q,λb hb=>(Y b hb).1,w0⟩;rintro n s3 ⟨i,t,H3,U,L,F,w3⟩;rcases turn i n t H3 w3 with⟨stop,qn⟩ | ⟨go,N,hN,step⟩
 ·refine m9 G (jE (T.done X gL gL gL Z i a s3 t H3 X.xe U (p F) L stop) λr s4 C=>?_);refine Ä C λO I4=>?_;subst O;exact v0 ⟨t,H3,I4,qn⟩
 ·refine m9 G (jE (T.item X gL gL gL Z i a s3 t H3 X.xe U (p F) L go) λr s4 C=>?_);refine Â C λu O h4=>?_;subst O;refine m9 G (jE h4 λ_ s5 C=>?_);refine Õ C λx S I5 r5 y5 B M=>?_;refine m9 G (jE (hg _ s5 t S x u _ (I5.pinned (p M) (T.obj _ _ B)) r5 (step x S y5)) λ_ s6 C=>?_);refine Î C λR H6 I6 q6=>?_;refine m9 G (jE (hb _ s6 R H6 _ I6 q6) λf P z=>?_)
  have jr:∀{j:St}{k:Hp},dL X (a++FG E s5.heap) j k P->N j k->∃m,m<n/\∃i q y,dL X a q y P/\tn i P.heap/\(∀b∈E,y b=wy)/\W i m q y:=λ{j k} l K=>by
   refine Â (hN j k K) λm' hm w7=>?_;refine⟨m',hm,i+1,j,k,l.unpinned,T.keep _ _ _ B λb hb o e=>(l.pin (b,o) (cG _ (cG _ (uT hb e)))).1,λb hb=>?_,w7⟩;refine Â (T.obj _ _ B b hb) λo e d=>?_;exact(l.pin (b,o) (cG _ (cG _ (uT hb e)))).2.1
  cases f with
  |next=>refine Î z λj k l K=>?_;exact jr l K
  |cont=>refine Î z λj k l K=>?_;exact jr l K
  |brk=>refine Î z λj k l z=>?_;exact⟨j,k,l.unpinned,z⟩
  |ret v=>refine Ð z λx7 j k l r7 z=>?_;exact⟨x7,j,k,l.unpinned,r7,z⟩
end
abbrev R2:=V->V->Hp->VK->Prop
def pF(X:Cx)(f:á->á->Sem á)(r:R2):Prop:=
 ∀a s b H x y v u Q,dL X a b H s->fK x v->fK y u->r x y H Q ->
  å (ä X.prog X.w) X.A (f v u) (EP X a b Q) X.xe s
def Bm(X:Cx)(f:á->Sem á)(r:V->Hp->VK->Prop):Prop:=
 ∀a s b H x v Q,dL X a b H s->fK x v->r x H Q ->
  å (ä X.prog X.w) X.A (f v) (EP X a b Q) X.xe s
def lV(X:Cx)(f:á)(r:List V->Hp->VK->Prop):Prop:=
 ∀a s d H c b Q,dL X a d H s->fN c b->r c H Q ->
  å (ä X.prog X.w) X.A (call f b) (EP X a d Q) X.xe s
def Js(X:Cx)(r:V->Hp->(Bool->Hp->Prop)->Prop):Prop:=
 ∀a s b H x v Q,dL X a b H s->fK x v->r x H Q ->
  å (ä X.prog X.w) X.A (truthy v) (TP X a b Q) X.xe s
def wo(r:R2)(d e:TE):TE:=λa H Q=>d a H λx b=>e a b λy c=>r x y c Q
def Ir(r:V->Hp->VK->Prop)(b:TE):TE:=λc H Q=>b c H λx a=>r x a Q
def rI(C:Int->Int->Prop)(g:Int->Int->V):R2:=λx y H Q=>∃i j,x=.int i/\y=.int j/\C i j/\Q (g i j) H
def YR(g:Int->Int->V):R2:=λx y H Q=>∃i j,x=.int i/\y=.int j/\Q (g i j) H
def rU(g:Int->V):V->Hp->VK->Prop:=λx H Q=>∃i,x=.int i/\Q (g i) H
section
variable{X:Cx}{a b:æ}{c d:TE}{pos:Pos}
def Ah(o:PE X a c)(hb:PE X b d){R:V->V->Hp->Prop}(I:dL X pins σ H s)
  (h:c σ H λx k=>d σ k λy e=>R x y e) {Q:á->ã->Prop} {f:á->á->Sem á}
  (p:∀v u j x y e,dL X pins σ e j->fK x v->fK y u->R x y e->å (ä X.prog X.w) X.A (f v u) Q X.xe j) :
  å (ä X.prog X.w) X.A (è a X.env) (λv g=>å (ä X.prog X.w) X.A (è b X.env) (λu i=>å (ä X.prog X.w) X.A (f v u) Q X.xe i) X.xe g) X.xe s:=by
 refine jE (o pins s σ H _ I h) λv B l=>?_;refine Í l λx k m t q=>?_;refine jE (hb pins B σ k _ m q) λu j l=>?_;refine Í l λy e n z r=>?_;exact p v u j x y e n t z r
def IJ(j:pF X (j8 op) r)(i:PE X a c)(hb:PE X b d):PE X (.BinOp a op b pos) (wo r c d):=by
 intro e s n H Q I h;exact wpAny_BinOp (Ah i hb I h λv u m x y f g k l q=>j e m n f x y v u Q g k l q)
def Po{r:V->Hp->VK->Prop}(k:Bm X (unaryOp op) r)(j:PE X a c):PE X (.UnaryOp op a pos) (Ir r c):=by
 intro e s f H Q I h;exact UnaryOp_ (jE (j e s f H _ I h) λv n z=>by refine Í z λx g i m l=>?_;exact k e n f g x v Q i m l)
def yj{f:á->á->Sem á}{C:Int->Int->Prop}{g:Int->Int->Int}
  (rule:∀i j t u s Q E,C i j->Q (.int (g i j) s.toks) { s with toks:=s.toks+1 }->å (ä X.prog X.w) X.A (f (.int i t) (.int j u)) Q E s) :
  pF X f (rI C λi j=>.int (g i j)):=by
 intro e s o H x y v u Q I l m h;refine Ñ h λi j z r k q=>?_;subst z r;refine Ã l λt z=>?_;subst z;refine Ã m λn z=>?_;subst z;exact rule i j t n s _ _ k ⟨.int (g i j),H,I.tok _,⟨_,gL⟩,q⟩
def Dh{f:á->á->Sem á}{g:Int->Int->Int}
  (rule:∀i j t u s Q E,Q (.int (g i j) s.toks) { s with toks:=s.toks+1 }->å (ä X.prog X.w) X.A (f (.int i t) (.int j u)) Q E s) :
  pF X f (YR λi j=>.int (g i j)):=by
 intro e s n H x y v u Q I k l h;refine Í h λi j z r q=>?_;subst z r;refine Ã k λt z=>?_;subst z;refine Ã l λm z=>?_;subst z;exact rule i j t m s _ _ ⟨.int (g i j),H,I.tok _,⟨_,gL⟩,q⟩
def yy{f:á->á->Sem á}{g:Int->Int->Bool}
  (rule:∀i j t u s Q E,Q (.bool (g i j)) s->å (ä X.prog X.w) X.A (f (.int i t) (.int j u)) Q E s) :
  pF X f (YR λi j=>.bl (g i j)):=by
 intro e s n H x y v u Q I k l h;refine Í h λi j z r q=>?_;subst z r;refine Ã k λt z=>?_;subst z;refine Ã l λm z=>?_;subst z;exact rule i j t m s _ _ ⟨.bl (g i j),H,I,gL,q⟩
def Ac(i j:Int):Prop:=0<j/\j<1073741824
def RF(i j:Int):Prop:=(-(2^64)<i/\i<2^64)\/(-(2^64)<j/\j<2^64)
def RF.ok{i j:Int}(h:RF i j):IntMulOk i j:=by
 rcases h with⟨e,f⟩ | ⟨e,f⟩
 ·exact .of_left (intBits_le_64 e f)
 ·exact .of_right (intBits_le_64 e f)
def Wm:pF X (j8 .Add) (YR λi j=>.int (i+j)):=Dh λ_ _ _ _ _ _ _ q=>add_int q
def wA:pF X (j8 .Sub) (YR λi j=>.int (i-j)):=Dh λ_ _ _ _ _ _ _ q=>sub_int q
def ZC:pF X (j8 .Mult) (rI RF λi j=>.int (i*j)):=yj λ_ _ _ _ _ _ _ e q=>mul_int q e.ok
def AR:pF X (j8 .FloorDiv) (rI Ac λi j=>.int (i / j)):=yj λi j _ _ _ _ _ e q=>by
 have f:=e.1;have g:=e.2;exact floordiv_int eH (by rw[ME i eH];exact q) (.inl (PyProof.noPylong_small eH))
def qQ:pF X (j8 .Mod) (rI (λ_ j=>0<j) λi j=>.int (i%j)):=yj λi j _ _ _ _ _ e q=>by
 exact mod_int' eH (by rw[Int.fmod_eq_emod_of_nonneg i eH];exact q)
def Ip{f:á->Sem á}{g:Int->Int}
  (rule:∀i t s Q E,Q (.int (g i) s.toks) { s with toks:=s.toks+1 }->å (ä X.prog X.w) X.A (f (.int i t)) Q E s) :
  Bm X f (rU λi=>.int (g i)):=by
 intro e s k H x v Q I j h;refine Â h λi z q=>?_;subst z;refine Ã j λt z=>?_;subst z;exact rule i t s _ _ ⟨.int (g i),H,I.tok _,⟨_,gL⟩,q⟩
def Xr:Bm X (unaryOp .USub) (rU λi=>.int (-i)):=Ip λ_ _ _ _ _ q=>neg_int q
end
noncomputable def Ba:V->V->Bool
|.non,.non=>wx | .non,.int _=>wx | .int _,.non=>wx | .non,.bl _=>wx | .bl _,.non=>wx | .non,.str _=>wx | .str _,.non=>wx
|.int _,.int _=>wx | .bl _,.bl _=>wx | .str _,.str _=>wx | .byt _,.byt _=>wx
|.int _,.str _=>wx | .str _,.int _=>wx | .bl _,.str _=>wx | .str _,.bl _=>wx
|_,_=>ww
def Ce:R2:=λx y H Q=>Ba x y=wx/\Q (.bl (decide (x=y))) H
def Cb:R2:=λx y H Q=>Ba x y=wx/\Q (.bl (!decide (x=y))) H
def TX{i j:Int}:decide (V.int i=V.int j)=(i==j):=by
 rw[gE];simp
def Ho{i j:Bool}:decide (V.bl i=V.bl j)=(i==j):=by
 rw[gE];simp
def TW:decide (V.str i=V.str j)=(i==j):=by
 rw[gE];simp
def TY{i j:Array UInt8}:decide (V.byt i=V.byt j)=(i.toList==j.toList):=by
 rw[gE];simp
section
variable{X:Cx}{a b c:æ}{g l n:TE}{pos:Pos}
def gI{k d:Bool}(I:dL X pins σ H s)(q:Q (.bl k) H)(e:k=d):EP X pins σ Q (.bool d) s:=by
 subst e;exact⟨.bl k,H,I,gL,q⟩
def fR:pF X (d6 .Eq) Ce:=by
 intro m s o H x y v u Q I k d h;refine Ä h λf q=>?_
 cases x with
 |non=>
  cases k
  cases y with
  |non=>cases d;exact PySem.EqNone.eq_none_none (gI I q gC)
  |bl j=>cases d;exact PySem.EqNone.eq_none_bool (gI I q gC)
  |int j=>refine Ã d λe z=>?_;subst z;exact PySem.EqNone.eq_none_int (gI I q gC)
  |str j=>refine Ã d λe z=>?_;subst z;exact PySem.EqNone.eq_none_str (gI I q gC)
  |_=>exact b9 (show ww=wx from f) bT
 |bl i=>
  cases k
  cases y with
  |non=>cases d;exact PySem.EqNone.eq_bool_none (gI I q gC)
  |bl j=>cases d;exact eq_bool (gI I q Ho)
  |str j=>refine Ã d λe z=>?_;subst z;exact PySem.EqMixed.eq_bool_str (gI I q gC)
  |_=>exact b9 (show ww=wx from f) bT
 |int i=>
  refine Ã k λt z=>?_;subst z
  cases y with
  |non=>cases d;exact PySem.EqNone.eq_int_none (gI I q gC)
  |int j=>refine Ã d λe z=>?_;subst z;exact eq_int (gI I q TX)
  |str j=>refine Ã d λe z=>?_;subst z;exact PySem.EqMixed.eq_int_str (gI I q gC)
  |_=>exact b9 (show ww=wx from f) bT
 |str i=>
  refine Ã k λt z=>?_;subst z
  cases y with
  |non=>cases d;exact PySem.EqNone.eq_str_none (gI I q gC)
  |bl j=>cases d;exact PySem.EqMixed.eq_str_bool (gI I q gC)
  |int j=>refine Ã d λe z=>?_;subst z;exact PySem.EqMixed.eq_str_int (gI I q gC)
  |str j=>refine Ã d λe z=>?_;subst z;exact eq_str (gI I q TW)
  |_=>exact b9 (show ww=wx from f) bT
 |byt i=>
  refine Ã k λt z=>?_;subst z
  cases y with
  |byt j=>refine Ã d λe z=>?_;subst z;exact PySem.W.eq_bytes (gI I q TY)
  |_=>exact b9 (show ww=wx from f) bT
 |_=>cases y<;>exact b9 (show ww=wx from f) bT
def IL:pF X (d6 .NotEq) Cb:=by
 intro m s o H x y v u Q I k d h;refine Ä h λf q=>?_
 cases x with
 |non=>
  cases k
  cases y with
  |non=>cases d;exact PySem.EqNone.ne_none_none (gI I q gC)
  |bl j=>cases d;exact PySem.EqNone.ne_none_bool (gI I q gC)
  |int j=>refine Ã d λe z=>?_;subst z;exact PySem.EqNone.ne_none_int (gI I q gC)
  |str j=>refine Ã d λe z=>?_;subst z;exact PySem.EqNone.ne_none_str (gI I q gC)
  |_=>exact b9 (show ww=wx from f) bT
 |bl i=>
  cases k
  cases y with
  |non=>cases d;exact PySem.EqNone.ne_bool_none (gI I q gC)
  |bl j=>cases d;exact ne_bool (gI I q (d8 not Ho))
  |str j=>refine Ã d λe z=>?_;subst z;exact PySem.EqMixed.ne_bool_str (gI I q gC)
  |_=>exact b9 (show ww=wx from f) bT
 |int i=>
  refine Ã k λt z=>?_;subst z
  cases y with
  |non=>cases d;exact PySem.EqNone.ne_int_none (gI I q gC)
  |int j=>refine Ã d λe z=>?_;subst z;exact ne_int (gI I q (d8 not TX))
  |str j=>refine Ã d λe z=>?_;subst z;exact PySem.EqMixed.ne_int_str (gI I q gC)
  |_=>exact b9 (show ww=wx from f) bT
 |str i=>
  refine Ã k λt z=>?_;subst z
  cases y with
  |non=>cases d;exact PySem.EqNone.ne_str_none (gI I q gC)
  |bl j=>cases d;exact PySem.EqMixed.ne_str_bool (gI I q gC)
  |int j=>refine Ã d λe z=>?_;subst z;exact PySem.EqMixed.ne_str_int (gI I q gC)
  |str j=>refine Ã d λe z=>?_;subst z;exact ne_str (gI I q (d8 not TW))
  |_=>exact b9 (show ww=wx from f) bT
 |byt i=>
  refine Ã k λt z=>?_;subst z
  cases y with
  |byt j=>refine Ã d λe z=>?_;subst z;exact PySem.W.ne_bytes (gI I q (d8 not TY))
  |_=>exact b9 (show ww=wx from f) bT
 |_=>cases y<;>exact b9 (show ww=wx from f) bT
def IM:pF X (d6 .Lt) (YR λi j=>.bl (decide (i<j))):=yy λ_ _ _ _ _ _ _ q=>lt_int q
def SH:pF X (d6 .LtE) (YR λi j=>.bl (decide (i<=j))):=yy λ_ _ _ _ _ _ _ q=>le_int q
def IP:pF X (d6 .Gt) (YR λi j=>.bl (decide (j<i))):=yy λ_ _ _ _ _ _ _ q=>gt_int q
def IQ:pF X (d6 .GtE) (YR λi j=>.bl (decide (j<=i))):=yy λ_ _ _ _ _ _ _ q=>ge_int q
def IN:pF X (d6 .In) (λx y H Q=>∃i j,x=.str i/\y=.str j/\Q (.bl (!(j6 j i 0 j.length 1).isEmpty)) H):=by
 intro d s m H x y v u Q I e f h;refine Í h λi j z w q=>?_;subst z w;refine Ã e λt z=>?_;subst z;refine Ã f λk z=>?_;subst z;exact in_str (gI I q gL)
def Wo:pF X (d6 .Is) (λx y H Q=>y=.non/\Q (.bl (decide (x=.non))) H):=by
 intro d s i H x y v u Q I e f h;refine Ä h λz q=>?_;subst z;cases f;refine is_none_gen (gI I q ?_)
 cases x<;>first
  | (cases e;rfl)
  | (refine Ã e λt z=>?_;subst z;rfl)
def Zp:pF X (d6 .IsNot) (λx y H Q=>y=.non/\Q (.bl (!decide (x=.non))) H):=by
 intro d s i H x y v u Q I e f h;refine Ä h λz q=>?_;subst z;cases f;refine isnot_none_gen (gI I q ?_)
 cases x<;>first
  | (cases e;rfl)
  | (refine Ã e λt z=>?_;subst z;rfl)
def pF.or{f:á->á->Sem á}{r e:R2}(h:pF X f r)(m:pF X f e):pF X f (λx y H Q=>r x y H Q\/e x y H Q):=by
 intro d s k H x y v u Q I i j q;rcases q with q | q
 ·exact h d s k H x y v u Q I i j q
 ·exact m d s k H x y v u Q I i j q
def FL(b:æ)(h:autoParam (op≠.In) zzy._auto_1)(f:autoParam (op≠.NotIn) zzy._auto_1):i0 op b=false:=by
 have d:(op==CmpOp.In)=false:=by cases op<;>first | rfl | exact b9 gL h
 have e:(op==CmpOp.NotIn)=false:=by cases op<;>first | rfl | exact b9 gL f
 cases b<;>simp[i0,d,e]
def SG(k:pF X (d6 op) r)(i:PE X a g)(hb:PE X b l)(j:i0 op b=ww):PE X (.Compare a [op] [b] pos) (wo r g l):=by
 intro d s t H Q I h;exact wpAny_Compare1 (Ah i hb I h λv u p x y e f m o q=>k d p t e x y v u Q f m o q) j
def Gj(t:TE):TT:=λe H Q=>t e H λx d=>∃k,x=.bl k/\Q k d
def R9(w:pF X (d6 op) r)(q:PE X a g)(hb:PE X b l)(t:i0 op b=ww):PT X (.Compare a [op] [b] pos) (Gj (wo r g l)):=by
 intro d s f H Q I h
 refine gu (jE (q d s f H _ I h) λv J r=>?_) t;refine Í r λx i m E A=>?_;refine jE (hb d J f i _ m A) λu K n=>?_;refine Í n λy j o F B=>?_;refine jE (w d K f j x y v u _ o E F B) λc s3 l=>?_;refine Ö l λz H3 p G k e C=>?_
 subst e;cases G;exact g7 ⟨H3,p,C⟩
def PH(r i:R2)(g l n:TE):TE:=λd H Q=>g d H λx e=>l d e λy f=>r x y f λz H3=>∃k,z=.bl k /\
 (if k=wx then n d H3 λj h=>i y j h Q else Q (.bl ww) H3)
def Y9(J:pF X (d6 op) r)(j:pF X (d6 op') r')(E:PE X a g)(hb:PE X b l)(F:PE X c n)
  (G:autoParam (fz [op,op'] [b,c]=false) zzq._auto_1):PE X (.Compare a [op,op'] [b,c] pos) (PH r r' g l n):=by
 intro f s i H Q I h
 refine Compare_chain (jE (E f s i H _ I h) λv R w=>?_) G;refine Í w λx q A N K=>?_;refine chain_link (jE (hb f R i q _ A K) λu S r=>?_);refine Í r λy t B p L=>?_;refine jE (J f S i t x y v u _ B N p L) λd s3 n=>?_;refine Ö n λz H3 m O k e o=>?_
 subst e;cases O;refine g7 ?_
 cases k with
 |false=>exact ite_ff ⟨.bl ww,H3,m,gL,o⟩
 |true=>exact ite_tt (chain_last (jE (F f s3 i H3 _ m o) λU T z=>by refine Í z λW w C P M=>?_;exact j f T i w y W u U Q C p P M))
def YX(N:pF X (d6 op) r)(j:pF X (d6 op') r')(K:PE X a g)(hb:PE X b l)(L:PE X c n)
  (M:autoParam (fz [op,op'] [b,c]=false) zzq._auto_1):PT X (.Compare a [op,op'] [b,c] pos) (Gj (PH r r' g l n)):=by
 intro f s i H Q I h
 refine isTrue_chain (jE (K f s i H _ I h) λv s1 w=>?_) M;refine Í w λx q B U P=>?_;refine test_link (jE (hb f s1 i q _ B P) λu s2 r=>?_);refine Í r λy t C p R=>?_;refine jE (N f s2 i t x y v u _ C U p R) λd s3 n=>?_;refine Ö n λz H3 m W k e o=>?_
 subst e;cases W;refine g7 ?_
 cases k with
 |false=>
  refine Â o λk' G O=>?_;cases G;exact ite_ff ⟨H3,m,O⟩
 |true=>
  refine ite_tt (test_last (jE (L f s3 i H3 _ m o) λw' s4 x=>?_));refine Í x λz' w E Y S=>?_;refine jE (j f s4 i w y z' u w' _ E p Y S) λd' s5 zq=>?_;refine Ö zq λz2 A F Z k2 J T=>?_;subst J;cases Z;exact g7 ⟨A,F,T⟩
def Ag(K:aH)(x:V)(H:Hp)(k:Bool):Prop:=
 match x with
 |.non=>k=ww
 |.bl b=>k=b
 |.int i=>k=(i != 0)
 |.str y=>y.length<=bN/\k=((y.length:Int) != 0)
 |.byt y=>y.size<=bN/\k=((y.size:Int) != 0)
 |.ref p=>(∃d,pE K H p d/\k=!d.isEmpty)\/(∃d,tI K H p d/\k=!d.isEmpty)\/∃kvs,H p=wz (.dK kvs)/\k=!kvs.isEmpty
 |_=>False
def QN{d:Type}{kvs:List (d×V)}{vs:List (d×á)}(r:KV kvs vs):(!vs.isEmpty)=!kvs.isEmpty:=by
 cases r<;>rfl
def F2{e:List V}{d:List á}(r:fN e d):(!d.toArray.isEmpty)=!e.isEmpty:=by
 cases r<;>simp
def B4:(bN:Nat)<2^63:=by rw[bb];decide
def Xo:Js X (λx H Q=>∃k,Ag X.K x H k/\Q k H):=by
 intro A s G H x v Q I j h;refine Â h λk e q=>?_;have F:=bb
 cases x with
 |non=>
  cases j;have d:=e;subst d;exact truthy_none ⟨H,I,q⟩
 |bl b=>
  cases j;have d:=e;subst d;exact g7 ⟨H,I,q⟩
 |int i=>
  refine Ã j λt n=>?_;subst n;have d:=e;subst d;exact PySem.P.truthy_int ⟨H,I,q⟩
 |str y=>
  refine Ã j λt n=>?_;subst n;refine Ä e λC d=>?_;subst d;exact PySem.P.truthy_str eH ⟨H,I.tok _,q⟩
 |byt y=>
  refine Ã j λt n=>?_;subst n;refine Ä e λC d=>?_;subst d;exact PySem.W.truthy_bytes eH ⟨H,I.tok _,q⟩
 |ref p=>
  cases j;have d:=e;rcases d with⟨E,o,d⟩ | ⟨E,o,d⟩ | ⟨kvs,o,d⟩
  ·subst d;refine Å (I.list o) λu r w z=>?_;have f:=r.length;exact wpAny_truthy_list w.isList (by simp only[bL];lia) ⟨H,I.tok _,by rw[F2 r];exact q⟩
  ·subst d;refine Å (I.tuple o) λu r w z=>?_;have f:=r.length;exact truthy_tuple w (by simp only[bL];lia) ⟨H,I.tok _,by rw[F2 r];exact q⟩
  ·subst d;refine Ø (I.hok p _ o) λz B vs r m=>?_;have f:=ae r;exact wpAny_truthy_dict B m eH ⟨H,I.tok _,by rw[QN r];exact q⟩
 |_=>exact(show False from e).elim
def YU(o:PE X a g)(p:∀d,isTrue a X.env d=(do let v <- d;cr a.pos;ak [v] (truthy v))) :
  PT X a (λf H Q=>g f H λx i=>∃k,Ag X.K x i k/\Q k i):=by
 intro e s f H Q I h;exact isTrue_plain (jE (o e s f H _ I h) λv t z=>by refine Í z λx j m r q=>?_;exact Xo e t f j x v Q m r q) (p _)
def P2:pF X (j8 .Add) (λx y H Q=>∃i j,x=.str i/\y=.str j/\i.length+j.length<=bN/\Q (.str (i++j)) H):=by
 intro d s p H x y v u Q I f k h;refine Ñ h λi j z w e q=>?_;subst z w;refine Ã f λt z=>?_;subst z;refine Ã k λm z=>?_;subst z;exact add_str (λm o=>⟨.str (i++j),H,I.tok _,⟨_,gL⟩,q⟩) e
def nI(r:fN [x] us):∃u,us=[u]/\fK x u:=by
 cases r with
 |cons d e=>cases e;exact⟨_,gL,d⟩
def RL(r:fN [x,y] us):∃u d,us=[u,d]/\fK x u/\fK y d:=by
 cases r with
 |cons e f=>
  cases f with
  |cons h i=>cases i;exact⟨_,_,gL,e,h⟩
def JT:lV X (.type "int") (λd H Q=>(∃i,d=[.int i]/\Q (.int i) H)\/∃k,d=[.bl k]/\Q (.int (if k then 1 else 0)) H):=by
 intro e s m H d j Q I r h;rcases h with⟨i,rfl,q⟩ | ⟨k,rfl,q⟩
 ·refine Ù (nI r) λu z t y=>?_;subst z y;exact call_int_int ⟨.int i,H,I,⟨_,gL⟩,q⟩
 ·refine Â (nI r) λu z f=>?_;subst z;cases f;exact call_int_bool ⟨.int (if k then 1 else 0),H,I.tok _,⟨_,gL⟩,q⟩
end
structure Q8(h:ç)(x dx C:à)(mA:â->Option á):Prop where
 obj:h.get? x=wz (kC C dx)
 ns:h.Ns1 dx mA
 ne:dx≠x
def VI{h:ç}{dx:à}{d:â->Option á}(n:h.Ns1 dx d):∃f,h.get? dx=wz f/\∀name,wS name f=wz (d name):=by
 refine Ú n λo c m k hd i _ j=>?_;refine⟨o,k,λname=>?_⟩;have e:=j name;unfold nsFind findBy at e;rw[<- WL]at e;unfold wS;rw[hd];dsimp only;split
 ·grind
 ·rename_i q;rw[q]at e
  have a:c.toList.any (·.refKey)=false:=by
   rw[List.any_eq_false];intro y l;refine À (i y (Array.mem_toList_iff.mp l)) λz t b=>?_;simp[DictEntry.refKey,b]
  grind
def Q8.look{h}{x dx C:à}{b:â->Option á}(I:Q8 h x dx C b):∃a,mU h x (kC C dx) C (wz a)/\∀name,wS name a=wz (b name):=
 let ⟨a,ho,hl⟩:=VI I.ns
 ⟨a,⟨I.obj,gL,gL,ho⟩,hl⟩
section
variable{prog:cO}{w:f8}{A:e6}{E:á->ã->Prop}{s:ã}{K:aH}{x dx C f:à}{a:â->Option á}{name:â}{v:á}
def Zw{b:Bool}{Q:á->ã->Prop}(X:K.In s.heap)(I:Q8 s.heap x dx C a)(e:uA K C name=wx)(g:BK K C=wx)
  (d:eK K (.ref C) name=wz wy) (j:a name=wz v) (c:WD v=wx) (h:Q v { s with toks:=s.toks+1 }) :
  å (ä prog w) A (getAttr (.ref x) name b) Q E s:=by
 refine Â I.look λk J i=>?_;exact PySem.W.get_value X J (yC e).1 (PySem.W.findObj_own g d gL (by rw[i,j])) c h
def aAy{Q:á×List á->ã->Prop}(X:K.In s.heap)(I:Q8 s.heap x dx C a)(b:uA K C name=wx)
  (c:eK K (.ref C) name=wz (wz (.ref f))) (e:L9 K (.ref f)=wx) (g:a name=wy) (h:Q (.ref f,[.ref x]) s) :
  å (ä prog w) A (dh (.ref x) name pl) Q E s:=by
 refine Â I.look λi J d=>?_;exact PySem.W.method_fn X J (yC b).1 (yC b).2 c (beq_iff_eq.mp e) (by show(wS name i).map (·.isSome)=wz ww;rw[d,g];rfl) h
def aDq{ns:List â}{Q:Unit->ã->Prop}(X:K.In s.heap)(I:Q8 s.heap x dx C a)
  (q:eK K (.ref C) "__setattr__"=wz (wz (.builtin "object.__setattr__"))) (p:UD K C=wx) (t:DS K C name=wz wy) (o:BK K C=wx)
  (hw:ee a ns) (r:ns.length<=bN)
  (h:∀e,Q8 e x dx C (λy=>if y=name then wz v else a y)->fX dx s.heap e->Q () { s with heap:=e,toks:=s.toks+2 }) :
  å (ä prog w) A (setAttr (.ref x) name v) Q E s:=by
 refine Â I.look λB J u=>?_;refine PySem.W.set_plain X J q (PySem.W.osa_open X J p t λb=>?_);refine Â (PySem.W.any_some o) λcd n i=>?_;refine aG (bB (aG (aG (wpAny_loadPart I.obj (aG (HG.here (PySem.W.looks_clsIn X n) ?_))))));rw[i];refine bB (aG (bB (aG ?_)));refine wpAny_nsSet1 I.ns λe c d=>?_;refine Ð (c.count (PySem.Within.cons name v hw)) λz m l k j g=>?_;refine aG (wpAny_lookBehind k (by rw[j];exact pastItsLine_dict (bK g (by rw[bD];lia))) ?_);exact bB (h _ ⟨(d.2 _ (i5 I.ne)).trans I.obj,c,I.ne⟩ d)
def Z6{R:Result->ã->Prop}(X:K.In s.heap)(e:WW K C=wx)
  (c:eK K (.ref C) "__init__"=wz (wz (.ref f))) (b:oY K (.ref f)=wz (.type "function"))
  (h:x0 (ä prog w) (A.under (.builtin "type.__call__" ⟨.ref C::vs,kw⟩)) (.call (.ref f) ⟨.ref (s.heap.objs.size+1)::vs,kw⟩) (PySem.W.InitBack (s.heap.objs.size+1) R)
   { s with heap:=(s.heap.push jG).push (kC C s.heap.objs.size) }) :
  x0 (ä prog w) A (.call (.ref C) ⟨vs,kw⟩) R s:=by
 obtain⟨i,g,d,t,os⟩:=s;exact PySem.W.make_core (PySem.W.makes_of X e) (qK X c) (λself=>PySem.W.bind_fn X self b) (.inl gL) h
end
noncomputable def xU(f:â)(v:V):List (â×V)->List (â×V)
|[]=>[(f,v)]
| (g,x)::r=>if g=f then(g,v)::r else(g,x)::xU f v r
theorem C2(f g:â)(v:V):∀fs,(xU f v fs).lookup g=if g=f then wz v else fs.lookup g
|[]=>by
 show lX g [(f,v)]=_;grind
| (k,x)::r=>by
 rw[show xU f v ((k,x)::r)=(if k=f then(k,v)::r else(k,x)::xU f v r)from rfl];by_cases a:k=f
 ·grind
 ·rw[a8 a];by_cases h:g=k
  ·grind
  ·simp only[lX,(beq_eq_false_iff_ne.mpr h)];exact(C2 f g v r)
theorem B6(f:â)(v:V):∀fs,f∈(xU f v fs).map (·.1)/\∀g,g∈fs.map (·.1)->g∈(xU f v fs).map (·.1)
|[]=>⟨by simp[xU],λg h=>by simp at h⟩
| (k,x)::r=>by
 obtain⟨b,c⟩:=B6 f v r;rw[show xU f v ((k,x)::r)=(if k=f then(k,v)::r else(k,x)::xU f v r)from rfl];grind
theorem C4(f:â)(v:V):∀fs,(xU f v fs).length<=fs.length+1
|[]=>by simp[xU]
| (k,x)::r=>by
 have b:=C4 f v r;rw[show xU f v ((k,x)::r)=(if k=f then(k,v)::r else(k,x)::xU f v r)from rfl];grind
def xY.some_of(r:xY (wz v) o):∃u,o=wz u/\fK v u:=by
 cases o with
 |none=>exact(show False from r).elim
 |some u=>exact⟨u,gL,r⟩
def xY.none_of(r:xY wy o):o=none:=by
 cases o with
 |none=>rfl
 |some u=>exact(show False from r).elim
def VT(r:fK v u):WD u=true:=by
 cases v with
 |non=>cases (show u=j9 from r);rfl
 |bl b=>cases (show u=ck b from r);rfl
 |int i=>obtain⟨t,e⟩:=(show∃t,u=o0 i t from r);cases e;rfl
 |str x=>obtain⟨t,e⟩:=(show∃t,u=aa x t from r);cases e;rfl
 |byt b=>obtain⟨t,e⟩:=(show∃t,u=Value.bytes b t from r);cases e;rfl
 |flt b=>obtain⟨t,e⟩:=(show∃t,u=eu b t from r);cases e;rfl
 |ref a=>cases (show u=d7 a from r);rfl
 |ty n=>cases (show u=fg n from r);rfl
section
variable{P:cO}{w:f8}{H:Hp}{h:ç}{a C dx:à}{fs:List (â×V)}
def EE(hok:rG P w H h)(e:H a=wz (.ins C dx fs)):∃b,Q8 h a dx C b/\(∀f,xY (fs.lookup f) (b f))/\ee b (fs.map (·.1))/\fs.length<=1000/\H dx=wz (.own a):=by
 refine Û ((show jF P w H h a (.ins C dx fs)from hok a _ e)) λd z ne ob b n r q=>?_;exact⟨b,⟨ob,n,ne⟩,r,q,z,d⟩
end
structure BN(K:aH)(C:à):Prop where
 pg:uA K C Str.empty=wx
 hd:BK K C=wx
 po:UD K C=wx
 sa:eK K (.ref C) "__setattr__"=wz (wz (.builtin "object.__setattr__"))
def BN.get{K}{C:à}(c:BN K C)(f:â):uA K C f=true:=c.pg
def fW(K:aH)(C:à)(f:â):Prop:=eK K (.ref C) f=wz wy
def fW.taker{K}{C:à}(n:fW K C f):DS K C f=wz none:=by
 unfold DS;rw[show eK K (.ref C) f=wz wy from n]
 rfl
structure yB(K:aH)(C:à)(m:â)(f:à):Prop where
 at_:eK K (.ref C) m=wz (wz (.ref f))
 fn:L9 K (.ref f)=wx
 kp:gR K (.ref f)=wx
section
variable{X:Cx}{d:List (à×Obj)}{i:St}{H:Hp}{s:ã}{a C dx:à}{fs:List (â×V)}{f:â}{v:V}{A:e6}{E:á->ã->Prop}
def F6{b:Bool}{Q:á->ã->Prop}(I:dL X d i H s)(e:H a=wz (.ins C dx fs))(c:BN X.K C)(n:fW X.K C f)(l:fs.lookup f=wz v)
  (h:∀u j,dL X d i H j->fK v u->Q u j):å (ä X.prog X.w) A (getAttr (.ref a) f b) Q E s:=by
 refine Ü (EE I.hok e) λm O r _ _ _=>?_;refine Â (xY.some_of (by rw[<- l];exact r f)) λu k g=>?_;exact Zw I.kIn O (c.get f) c.hd n k (VT g) (h u _ (I.tok _) g)
def zM{g:à}{Q:á×List á->ã->Prop}(I:dL X d i H s)(e:H a=wz (.ins C dx fs))(c:BN X.K C)(k:yB X.K C m g)(l:fs.lookup m=wy)
  (h:Q (.ref g,[.ref a]) s):å (ä X.prog X.w) A (dh (.ref a) m pl) Q E s:=by
 refine Ü (EE I.hok e) λb O r _ _ _=>?_;exact aAy I.kIn O (c.get m) k.at_ k.fn (xY.none_of (by grind)) h
def E4{Q:Unit->ã->Prop}(I:dL X d i H s)(e:H a=wz (.ins C dx fs))(c:BN X.K C)(n:fW X.K C f)(G:fs.length<1000)(B:fK y u)
  (h:∀l,dL X d i (eS H a (.ins C dx (xU f y fs))) l->Q () l):å (ä X.prog X.w) A (setAttr (.ref a) f u) Q E s:=by
 refine Ü (EE I.hok e) λx O r m _ k=>?_;have t:(fs.map (·.1)).length<=bN:=by rw[aC,bb];lia
 refine aDq I.kIn O c.sa c.po n.taker c.hd m t λF j sb=>h _ ?_;refine I.write (by rw[e];exact e7) (.inr k) (λb q hb z=>(sb.2 b hb).trans z) (by refine Ï j.ns λo _ _ e' _=>?_;grind) ?_;refine⟨by rw[bZ O.ne];exact k,?_,O.ne,j.obj,_,j.ns,λg=>?_,λg p=>?_⟩
 ·have:=C4 f y fs;lia
 ·rw[C2];by_cases q:g=f
  ·rw[b7 q,b7 q];exact B
  grind
 ·by_cases q:g=f
  ·rw[q];exact(B6 f y fs).1
  ·refine(B6 f y fs).2 g (m g λz=>p ?_);lia
def dL.made(I:dL X d i H s):dL X d i (eS (eS H s.heap.objs.size (.own (s.heap.objs.size+1))) (s.heap.objs.size+1) (.ins C s.heap.objs.size []))
  { s with heap:=(s.heap.push jG).push (kC C s.heap.objs.size) }:=by
 have c:(s.heap.push jG).get? s.heap.objs.size=wz jG:=bA s.heap gL
 have g:((s.heap.push jG).push (kC C s.heap.objs.size)).get? (s.heap.objs.size+1)=wz (kC C s.heap.objs.size):=by
  have:=bA (s.heap.push jG) (o:=kC C s.heap.objs.size) gL
  rwa [fL]at this
 refine(I.laid (a:=s.heap.objs.size) (o:=.own (s.heap.objs.size+1)) (h':=s.heap.push jG) (t':=s.toks) (λb u q=>aK _ q) (aP _) ⟨_,c⟩).laid (λb u q=>aK _ q) (mI (fL _ _)) ?_;have ne:s.heap.objs.size≠s.heap.objs.size+1:=cU (nN _);refine⟨by rw[bZ ne,bU],dA _,ne,g,λ_=>wy,(Heap.Ns1.of_empty (⟨jG,#[],_,c,gL,(λe h=>b9 h gC),λ_=>rfl⟩)).at λo q=>aK _ q,λ_=>e7,λy j=>b9 gL j⟩
def Yh{f s}{Q:á->ã->Prop}(hb:g8 e f env (è e env)=è e env)
  (h:å (ä prog w) A (è e env) (λo b=>å (ä prog w) A (getAttr o f wx) Q E b) E s):å (ä prog w) A (è (.Attribute e f pos) env) Q E s:=
 Attribute_any_ h (by rw[arm_eval_Attribute,hb])
end
def Ds(K:aH)(c:TE)(f:â):TE:=λd H Q=>c d H λx b=>∃a C dx fs v,x=.ref a/\b a=wz (.ins C dx fs)/\BN K C/\fW K C f/\fs.lookup f=wz v/\Q v b
def KQ(K:aH)(e tv:TE)(f:â):TS:=λD b H=>tv b H λy d=>e b d λx c=>∃a C dx fs,x=.ref a/\c a=wz (.ins C dx fs)/\BN K C/\fW K C f/\fs.length<1000 /\
 D.nx b (eS c a (.ins C dx (xU f y fs)))
def Cj(X:Cx)(c:Operator)(d:V->V->Hp->VK->Prop):Prop:=
 ∀a s b H x y u v Q,dL X a b H s->fK x u->fK y v->d x y H Q->å (ä X.prog X.w) X.A (inplaceOp c u v) (EP X a b Q) X.xe s
def aDu(K:aH)(i tv:TE)(h:V->V->Hp->VK->Prop)(f:â):TS:=λD d H=>i d H λx e=>∃a C dx fs v,x=.ref a/\e a=wz (.ins C dx fs)/\BN K C/\fW K C f/\fs.lookup f=wz v /\
 tv d e λy g=>h v y g λz H3=>∃c b,H3 a=wz (.ins C c b)/\b.length<1000/\D.nx d (eS H3 a (.ins C c (xU f z b)))
section
variable{X:Cx}{o e b:æ}{f:â}{pos d k:Pos}{g tv:TE}
def PY(t:PE X e g)(hb:g8 e f X.env (è e X.env)=è e X.env):PE X (.Attribute e f pos) (Ds X.K g f):=by
 intro i s A H Q I h;refine Yh hb (jE (t i s A H _ I h) λu B z=>?_);obtain⟨x,j,m,y,a,C,dx,fs,v,ex,r,c,n,l,q⟩:=z;subst ex;obtain rfl:=y;exact F6 m r c n l λF E p w=>⟨v,j,p,w,q⟩
def uQ(w:PE X o g)(A:PE X b tv)(z:mH b (wz (.Attribute o f d)) pos.line X.env=pure ww):PS X (.Assign [.Attribute o f d] b pos) (KQ X.K g tv f):=by
 intro i s j H D I h;refine plainObj_wpAny_Assign_Attribute (jE (A i s j H _ I h) λu G o=>?_) z;refine Í o λy m p F q=>?_;refine jE (w i G j m _ p q) λM N J=>?_;obtain⟨x,L,r,E,a,C,dx,fs,ex,v,c,n,l,B⟩:=J;subst ex;obtain rfl:=E;exact E4 r v c n l F λs3 t=>⟨j,_,t,B⟩
def UY{t:V->V->Hp->VK->Prop}(O:PE X o g)(P:PE X b tv)(p:Cj X op t):PS X (.AugAssign (.Attribute o f k) op b pos) (aDu X.K g tv t f):=by
 intro i s j H D I h;refine wpAny_AugAssign_AttributeAny (jE (O i s j H _ I h) λov s1 r=>?_);obtain⟨x,w,B,U,a,C,dx,fs,v,ex,M,c,n,l,q⟩:=r;subst ex;obtain rfl:=U;refine F6 B M c n l λu Z E T=>jE (P i Z j w _ E q) λw3 s3 t=>?_;refine Í t λy A F W R=>?_;refine jE (p i s3 j A v y u w3 _ F T W R) λw4 s4 r=>?_;refine ß r λz H3 G Y L N m Q S=>?_;exact E4 G m c n Q Y λs5 J=>⟨j,_,J,S⟩
def Kn:V->V->Hp->VK->Prop:=λx y H Q=>∃i j,x=.int i/\y=.int j/\Q (.int (i+j)) H
def Vm:Cj X .Add Kn:=by
 rintro a s m H x y u v Q I h l ⟨i,j,rfl,rfl,q⟩;refine Ã (show∃t,u=o0 i t from h) λt z=>?_;subst z;refine Ã (show∃c,v=o0 j c from l) λc z=>?_;subst z;exact PyProof.Rows.iadd_int ⟨.int (i+j),H,I.tok _,⟨_,gL⟩,q⟩
end
section
variable{X:Cx}{d:List (à×Obj)}{f:St}{H:Hp}{s:ã}{A:e6}{E:á->ã->Prop}{Q:á->ã->Prop}{c:á}{b:Bool}
inductive DO(K:aH)(H:Hp):V->á->Prop where
|non:DO K H .non (.type "NoneType")
|bl (x:Bool):DO K H (.bl x) (.type "bool")
|int (i:Int):DO K H (.int i) (.type "int")
|str (x:â):DO K H (.str x) (.type "str")
|flt (x:UInt64):DO K H (.flt x) (.type "float")
|lst {a:à} {xs:List V} (e:H a=wz (.lst xs)):DO K H (.ref a) (.type "list")
|frz {a:à} {o:Obj} {xs:List V} (e:H a=wz (.frz o (.lst xs))):DO K H (.ref a) (.type "list")
|tup {a:à} {xs:List V} (e:H a=wz (.tup xs)):DO K H (.ref a) (.type "tuple")
|dK {a:à} {kvs:List (lE×V)} (e:H a=wz (.dK kvs)):DO K H (.ref a) (.type "dict")
|dT {a:à} {kvs:List (List lE×V)} (e:H a=wz (.dT kvs)):DO K H (.ref a) (.type "dict")
|ins {a C dx:à} {fs:List (â×V)} (e:H a=wz (.ins C dx fs)) (cl:BN K C) (ha:eK K (.ref C) "__class__"=wz (wz (.builtin "object.__class__")))
  (hn:PySem.W.specialIn K (.builtin "object.__class__") "__get__"=wz (wz (.builtin "getset_descriptor.__get__"))) (lq:PySem.W.takesIn K (.builtin "object.__class__")=wz wx)
  (hm:dS K C (.type "object")=wz wx):DO K H (.ref a) (.ref C)
def xI(I:dL X d f H s)(g:fK x u)(ty:DO X.K H x t)(e:eY X.K t c=wz b)(h:∀v,Q (.bool b) { s with toks:=v }) :
  å (ä X.prog X.w) A (call (.builtin "isinstance") [u,c]) Q E s:=by
 cases ty with
 |non=>cases (show u=j9 from g);exact eO PySem.W.kitx_none I.kIn e7 e (λz=>nomatch z) h
 |bl y=>cases (show u=ck y from g);exact eO PySem.W.kitx_bool I.kIn e7 e (λz=>nomatch z) h
 |int i=>refine Ã (show∃t,u=o0 i t from g) λt q=>?_;cases q;exact eO PySem.W.kitx_int I.kIn e7 e (λz=>nomatch z) h
 |str y=>refine Ã (show∃t,u=aa y t from g) λt q=>?_;cases q;exact eO PySem.W.kitx_str I.kIn e7 e (λz=>nomatch z) h
 |flt y=>refine Ã (show∃t,u=eu y t from g) λt q=>?_;cases q;exact eO PySem.W.kitx_float I.kIn e7 e (λz=>nomatch z) h
 |@lst a k ea=>
  cases (show u=d7 a from g);refine Ç ((show jF X.prog X.w H s.heap a (.lst k)from I.hok a _ ea)) λ_ _ n _ j=>?_;exact eO sR I.kIn ⟨_,j,gL⟩ e (λz=>nomatch z) h
 |@frz a ob k ea=>
  cases (show u=d7 a from g);refine ë ((show jF X.prog X.w H s.heap a (.frz ob (.lst k))from I.hok a _ ea)) λ_ _ _ n _ j=>?_;exact eO sR I.kIn ⟨_,j,gL⟩ e (λz=>nomatch z) h
 |@tup a k ea=>
  cases (show u=d7 a from g);refine È ((show jF X.prog X.w H s.heap a (.tup k)from I.hok a _ ea)) λ_ _ _ p=>?_;refine Å p λo j l _=>?_;exact eO RG I.kIn ⟨o,j,l⟩ e (λz=>nomatch z) h
 |@dK a kvs ea=>
  cases (show u=d7 a from g);refine Ø ((show jF X.prog X.w H s.heap a (.dK kvs)from I.hok a _ ea)) λ_ _ vs _ p=>?_;refine Ð p λo r m j l _=>?_;exact eO UE I.kIn ⟨o,j,l.1⟩ e (λz=>nomatch z) h
 |@dT a kvs ea=>
  cases (show u=d7 a from g);refine ì ((show jF X.prog X.w H s.heap a (.dT kvs)from I.hok a _ ea)) λ_ _ k _ o r m j l _=>?_;exact eO UE I.kIn ⟨o,j,l.1⟩ e (λz=>nomatch z) h
 |@ins a C dx fs ea cl ha hn lq hm=>
  cases (show u=d7 a from g);refine Â (EE I.hok ea) λB O _=>?_;refine Â O.look λF J _=>?_;exact eO (PySem.W.kitx_own (cl.get _) cl.hd ha hn lq hm) I.kIn J e (λz=>nomatch z) h
end
structure iF(k:Nat)(A:e6):Prop where
 hd:A.handled=wy
 dp:A.depth+3*k+5<ba
 un:A.units+16*k+200<v7
 gd:A.guards=wz []
def iF.mono{j k:Nat}(r:iF k A)(h:j<=k):iF j A:=⟨r.hd,by have:=r.dp;lia,by have:=r.un;lia,r.gd⟩
theorem iF.deeper{k:Nat}{A:e6}(r:iF (k+1) A)(env:Env):iF k (A.deeper env):=
 ⟨r.hd,by have:=r.dp;show A.depth+1+3*k+5<_;lia,by have:=r.un;show A.units+3+16*k+200<_;lia,r.gd⟩
theorem iF.in1{k:Nat}{A:e6}(r:iF (k+1) A):iF k A.in1:=
 ⟨r.hd,by have:=r.dp;lia,by have:=r.un;lia,r.gd⟩
def QF{A:e6}{C:à}:(A.under (.builtin "type.__call__" ⟨.ref C::us,kw⟩)).depth=A.depth+1:=by
 rfl
def QE{A:e6}{C:à}:(A.under (.builtin "type.__call__" ⟨.ref C::us,kw⟩)).units=A.units+1:=by
 rfl
def iF.make{k:Nat}{A:e6}(r:iF (k+1) A)(C:à)(b:List á)(a:List (â×á)):iF k (A.under (.builtin "type.__call__" ⟨.ref C::b,a⟩)):=
 ⟨r.hd,by have:=r.dp;rw[QF];lia,by have:=r.un;rw[QE];lia,by first | exact r.gd | (simp[aw,Code.isGuard,guardIds];exact r.gd)⟩
theorem iF.depth{k:Nat}{A:e6}(r:iF k A):A.depth<ba:=by have:=r.dp;lia
theorem iF.units{k:Nat}{A:e6}(r:iF k A):A.units+64<v7:=by have:=r.un;lia
def DI:TA:=λ_ H Q=>Q [] H
def rN(d:TE)(tr:TA):TA:=λa H Q=>d a H λx b=>tr a b λe c=>Q (x::e) c
section
variable{X:Cx}{e:æ}{a:List æ}{c:TE}{t:TA}{pos:Pos}
def kX:PA X [] DI:=λ_ _ _ _ H Q I h=>Calls.spliced_nil ⟨[],H,I,.nil,h⟩
def eF(k:PE X e c)(l:PA X a t)(m:autoParam (bV (e::a) X.env=(ww,è e X.env)::bV a X.env) zzz._auto_1):PA X (e::a) (rN c t):=by
 intro pos b s d H Q I h;rw[m];refine Calls.spliced_cons (jE (k b s d H _ I h) λu r w=>?_);refine Í w λx f i p n=>?_;exact jE (l pos b r d f _ i n) λz y t=>by refine Í t λv g j q o=>?_;exact ⟨x::v,g,j,.cons p q,o⟩
def Dt(t:TA):TE:=λf H Q=>t f H λd b=>d.length<=bN/\∀p,b p=wy->Q (.ref p) (eS b p (.tup d))
def Mc(t:TA):TE:=λf H Q=>t f H λd b=>d.length<=bN/\∀p,b p=wy->Q (.ref p) (eS b p (.lst d))
def FH(h:PA X a t):PE X (.Tuple a x1 pos) (Dt t):=by
 intro d s m H Q I j;refine wpAny_Tuple_spliced (jE (h pos d s m H _ I j) λk g y=>?_);refine Ñ y λl i f r z q=>?_;refine ⟨by rw[<- r.length];exact z,?_⟩;refine⟨.ref g.heap.objs.size,eS i g.heap.objs.size (.tup l),f.laid (λb u e=>aK _ e) (aP _) ?_,gL,q _ (f.hok.fresh (aP _))⟩;exact⟨z,k,r,⟨_,bA _ gL,gL,_,gL,gL⟩⟩
def PX(h:PA X a t):PE X (.List a pos) (Mc t):=by
 intro d s m H Q I j;refine wpAny_List_spliced (jE (h pos d s m H _ I j) λk g y=>?_);refine Ñ y λl i f r z q=>?_;refine ⟨by rw[<- r.length];exact z,?_⟩;refine⟨.ref g.heap.objs.size,eS i g.heap.objs.size (.lst l),f.laid (λb u e=>aK _ e) (aP _) ?_,gL,q _ (f.hok.fresh (aP _))⟩;exact⟨z,k,0,r,bA _ gL⟩
end
abbrev Sp:=List V->Hp->VK->XK->Prop
abbrev WC:=List Env->Hp->ã->XK->á->ã->Prop
structure RB(P:cO)(w:f8)(K:aH)(mg:â->Option á)(base:ç)(A:e6)(outer:List Env)(s:ã)(H:Hp):Prop where
 frames:A.frames=wz outer
 mod:Mod K mg base
 bs:∀b o,base.get? b=wz o->s.heap.get? b=wz o/\H b=wy
 bsz:base.objs.size<=s.heap.objs.size
 funs:s.heap.FunFrames base outer
 frf:∀b∈tT outer,H b=wy
 hok:rG P w H s.heap
 bare:v9 s.gens
 tab:Tb H
def CE(outer:List Env)(P:cO)(w:f8)(H:Hp)(s:ã)(Q:VK)(u:á)(a:ã):Prop:=
 ∃v b,a.os=s.os/\v9 a.gens/\Un (tT outer) [] H b s.heap a.heap/\rG P w b a.heap/\fK v u/\Q v b
def CR(b:WC)(outer:List Env)(P:cO)(w:f8)(H:Hp)(s:ã)(Q:VK)(E:XK)(r:Result)(a:ã):Prop:=
 match r with
 |.ok (.ret u)=>CE outer P w H s Q u a
 |.ok _=>False
 |.error e=>b outer H s E e a
structure nG(P:cO)(w:f8)(K:aH)(mg:â->Option á)(base:ç)(CX:WC)(k:Nat)(f:à)(fd:iW)(ps:List â)(sp:Sp):Prop where
 len:∀vs H Q E,sp vs H Q E->vs.length=ps.length
 run:∀A outer s H(args:Args)(us:List á)(vs:List V)Q E,iF k A->RB P w K mg base A outer s H->BindsTo s fd args (ps.zip us)->fN vs us->sp vs H Q E ->
  x0 (ä P w) A (.call (.ref f) args) (CR CX outer P w H s Q E) s
def nG.imp{K}{mg:â->Option á}{k:Nat}{f:à}{c b:Sp}(F:nG P w K mg base CX k f fd ps c)
  (h:∀vs H Q E,b vs H Q E->c vs H Q E):nG P w K mg base CX k f fd ps b:=
 ⟨λvs H Q E q=>F.len vs H Q E (h _ _ _ _ q),λA outer s H a j vs Q E e d hb i g=>F.run A outer s H a j vs Q E e d hb i (h _ _ _ _ g)⟩
def RB.make{K}{mg:â->Option á}{A:e6}(e:RB P w K mg base A outer s H)(C:à)(b:List á)(a:List (â×á)) :
  RB P w K mg base (A.under (.builtin "type.__call__" ⟨.ref C::b,a⟩)) outer s H:=⟨by first | exact e.frames | (simpa[aw,Code.envs,ek,pushEnvs]using e.frames),e.mod,e.bs,e.bsz,e.funs,e.frf,e.hok,e.bare,e.tab⟩
section
variable{X:Cx}{a:List (à×Obj)}{f:St}{H:Hp}{s c:ã}
def dL.env0(I:dL X a f H s):RB X.prog X.w X.K X.mg X.base X.A X.stack s H:=
 ⟨I.ok.frames,I.ok.mod,I.bs,bK I.ok.bsz I.sz,I.stack,I.stkFree,I.hok,I.bare,λP e=>by obtain⟨ps,h⟩:=I.ok.tab P e;exact by obtain⟨m,h'⟩:=I.base.tbls P ps h;grind⟩
def dL.after(I:dL X a f H s)(h:CE X.stack X.prog X.w H s Q u c):EP X a f Q u c:=by
 refine í h λv e os bare un hok r q=>?_;obtain⟨j,g,d,t,i⟩:=c;obtain rfl:=os;exact⟨v,e,I.call un hok bare (λb z=>b9 z gC),r,q⟩
end
def HW(c:Sp)(a:List V)(E:XK)(t:TA):TE:=λd H Q=>t d H λvs b=>c (vs++a) b Q E
def EU(C:à)(m:â)(f:Sp)(b:List V)(E:XK)(g:TE)(t:TA):TE:=λd H Q=>g d H λx c=>∃a dx fs,x=.ref a/\c a=wz (.ins C dx fs)/\fs.lookup m=wy /\
 t d c λvs e=>f (x::(vs++b)) e Q E
def XV(C:à)(d:Sp)(b:List V)(E:XK)(t:TA):TE:=λe H Q=>t e H λvs a=>∀x dx,a x=wy->a dx=wy->dx≠x ->
 d (.ref x::(vs++b)) (eS (eS a dx (.own x)) x (.ins C dx [])) (λv c=>v=.non/\Q (.ref x) c) E
def rY(K:aH)(d:iW)(c:List â)(b:List á):Prop:=
 ∀s a,K.In s.heap->(a++b).length=c.length->BindsTo s d ⟨a,[]⟩ (c.zip (a++b))
def rY.all{K}{b:List â}(h:∀a,a.length=b.length->bindArgs fd ⟨a,[]⟩=pure (b.zip a)):rY K fd b []:=λs a _ c=>by
 rw[cM]at c |-
 exact .of_eq (h a c)
def wO(c:WC)(X:Cx)(E:XK):Prop:=∀a d H s e b,dL X a d H s->c X.stack H s E e b->X.xe e b
section
variable{X:Cx}{n:WC}{k:Nat}{f C:à}{y:iW}{j:List â}{z:Sp}{b:List V}{g:List á}{E:XK}{x m:â}{p pos d:Pos}{e o:æ}{i:List æ}{B:TE}{t:TA}
def PJ(F:nG X.prog X.w X.K X.mg X.base n k f y j z)(q:iF k X.A)(hb:rY X.K y j g)(hd:fN b g)(v:wO n X E)
  (I:dL X pins σ H s) (r:fN vs us) (h:z (vs++b) H Q E):å (ä X.prog X.w) X.A (call (.ref f) us) (EP X pins σ Q) X.xe s:=by
 have c:=r.append hd;have l:(us++g).length=j.length:=by rw[<- c.length];exact F.len _ _ _ _ h
 refine fb (ah (F.run X.A X.stack s H ⟨us,[]⟩ (us++g) (vs++b) Q E q I.env0 (hb s us I.kIn l) c h) λr G a=>?_)
 cases r with
 |error e=>exact v pins σ H s e G I a
 |ok fl=>
  cases fl with
  |ret u=>exact I.after a
  |next=>exact h9 a
  |brk=>exact h9 a
  |cont=>exact h9 a
def kE(F:nG X.prog X.w X.K X.mg X.base n k f y j z)(N:iF k X.A)(J:Gl X x)(M:X.mg x=wz (.ref f))(L:gR X.K (.ref f)=wx)(hb:rY X.K y j g)(hd:fN b g)(O:wO n X E)
  (v:PA X (e::i) t) (c:autoParam ((x==("__debug__":â))=false) zzy._auto_1) (G:autoParam (bV (e::i) X.env=(ww,è e X.env)::bV i X.env) zzz._auto_1) (l:autoParam ((j7 pos (bV i X.env)).any (·.1)=false) zzz._auto_1) :
  PE X (.Call (.Name x p) (e::i) [] pos) (HW z b E t):=by
 intro a s P H Q I h;refine o7 (xG I J M ?_ c);refine sA I.ok.mod.kin L (jE (v pos a s P H _ I h) λT S z=>?_) G l;refine Í z λvs R u r q=>?_;refine ⟨u.kIn,?_⟩;exact PJ F N hb hd O u r q
def hU(T:PE X o B)(c:BN X.K C)(N:yB X.K C m f)(F:nG X.prog X.w X.K X.mg X.base n k f y j z)(U:iF k X.A)(hb:rY X.K y j g)(hd:fN b g)(Y:wO n X E)(S:PA X (e::i) t)
  (J:autoParam (bV (e::i) X.env=(ww,è e X.env)::bV i X.env) zzz._auto_1) (G:autoParam ((j7 pos (bV i X.env)).any (·.1)=false) zzz._auto_1)
  (W:autoParam (è (.Call (.Attribute o m d) (e::i) [] pos) X.env=(do
   let ov <- è o X.env
   cr d.atName
   let (f,first) <- ak [ov] (dh ov m pl)
   callWith pos f first (j7 pos (bV (e::i) X.env)) (gx pos (dy [] X.env)))) zzz._auto_1) :
  PE X (.Call (.Attribute o m d) (e::i) [] pos) (EU C m z b E B t):=by
 intro v s O H Q I h;refine vM (jE (T v s O H _ I h) λu s1 zq=>?_) W;refine î zq λx P L rx a dx fs ex R l q=>?_;subst ex;obtain rfl:=rx;refine zM L R c N l ?_;refine sA I.ok.mod.kin N.kp (jE (S pos v s1 O P _ L q) λus s2 z=>?_) J G;refine Í z λvs H2 M r Z=>?_;refine ⟨M.kIn,?_⟩;exact PJ (vs:=.ref a::vs) F U hb hd Y M (.cons gL r) Z
def tO(L:PE X o B)(c:BN X.K C)(G:yB X.K C m f)(F:nG X.prog X.w X.K X.mg X.base n k f y j z)(M:iF k X.A)(hb:rY X.K y j g)(hd:fN b g)(O:wO n X E)
  (N:autoParam (è (.Call (.Attribute o m d) [] [] pos) X.env=(do
   let ov <- è o X.env
   cr d.atName
   let (f,first) <- ak [ov] (dh ov m pl)
   callWith pos f first (j7 pos (bV [] X.env)) (gx pos (dy [] X.env)))) zzz._auto_1) :
  PE X (.Call (.Attribute o m d) [] [] pos) (EU C m z b E B DI):=by
 intro r s S H Q I h;refine vM (jE (L r s S H _ I h) λu U R=>?_) N;refine î R λx T v P a dx fs ex J l q=>?_;subst ex;obtain rfl:=P;refine zM v J c G l ?_;exact PySem.W.callWith_K0 v.kIn G.kp (PJ (vs:=[.ref a]) F M hb hd O v (.cons gL .nil) q)
structure Mk(K:aH)(C f:à):Prop where
 makes:WW K C=wx
 init:eK K (.ref C) "__init__"=wz (wz (.ref f))
 fn:L9 K (.ref f)=wx
 kp:gR K (.ref C)=wx
def YE{H:Hp}{Q:VK}(M:Mk X.K C f)(F:nG X.prog X.w X.K X.mg X.base n k f y j z)(P:iF (k+1) X.A)(hb:rY X.K y j g)(hd:fN b g)
  (R:wO n X E) (I:dL X pins σ H s) (r:fN vs us)
  (h:∀x dx,H x=wy->H dx=wy->dx≠x->z (.ref x::(vs++b)) (eS (eS H dx (.own x)) x (.ins C dx [])) (λv J=>v=.non/\Q (.ref x) J) E) :
  å (ä X.prog X.w) X.A (call (.ref C) us) (EP X pins σ Q) X.xe s:=by
 have l:=h (s.heap.objs.size+1) s.heap.objs.size (I.hok.fresh (pB _)) (I.hok.fresh (aP _)) (cU (nN _));have c:=dL.made (C:=C) I;have q:fN (V.ref (s.heap.objs.size+1)::(vs++b)) (d7 (s.heap.objs.size+1)::(us++g)):=.cons gL (r.append hd)
 have O:(d7 (s.heap.objs.size+1)::us++g).length=j.length:=by
  have e:=q.length;rw[F.len _ _ _ _ l]at e;exact e.symm
 refine fb (Z6 I.kIn M.makes M.init (beq_iff_eq.mp M.fn) (ah (F.run _ X.stack _ _ ⟨d7 (s.heap.objs.size+1)::us,[]⟩ (d7 (s.heap.objs.size+1)::(us++g)) _ _ E (P.make C us [])
  (c.env0.make C us []) (hb _ (d7 (s.heap.objs.size+1)::us) c.kIn O) q l) λr U a=>?_))
 cases r with
 |error e=>exact R pins σ _ _ e U c a
 |ok fl=>
  cases fl with
  |ret u=>
   refine Ñ (c.after a) λv G L T N S=>?_;subst N;exact⟨T,⟨V.ref (s.heap.objs.size+1),G,L,gL,S⟩⟩
  |next=>exact h9 a
  |brk=>exact h9 a
  |cont=>exact h9 a
def K0(M:Mk X.K C f)(F:nG X.prog X.w X.K X.mg X.base n k f y j z)(N:iF (k+1) X.A)(J:Gl X x)(L:X.mg x=wz (.ref C))(hb:rY X.K y j g)(hd:fN b g)(O:wO n X E)
  (v:PA X (e::i) t) (c:autoParam ((x==("__debug__":â))=false) zzy._auto_1) (G:autoParam (bV (e::i) X.env=(ww,è e X.env)::bV i X.env) zzz._auto_1) (l:autoParam ((j7 pos (bV i X.env)).any (·.1)=false) zzz._auto_1) :
  PE X (.Call (.Name x p) (e::i) [] pos) (XV C z b E t):=by
 intro a s P H Q I h;refine o7 (xG I J L ?_ c);refine sA I.ok.mod.kin M.kp (jE (v pos a s P H _ I h) λT S z=>?_) G l;refine Í z λvs R u r q=>?_;refine ⟨u.kIn,?_⟩;exact YE M F N hb hd O u r q
end
structure bS(N P:List â)(sc:Scope):Prop where
 kind:sc.kind=.function
 co:sc.isCoroutine=ww
 gen:sc.isGenerator=ww
 nd:N.Nodup
 pre:N.take P.length=P
 par:∀x∈P,sc.names.lookup x=wz .local\/sc.names.lookup x=wz .cell
 nofree:∀y∈sc.names,y.2≠.free
theorem JV{kindOf:â->Option m8}:∀{binds}{m:â->Option á},(∀v,(x,v)∉binds)->bindL kindOf binds m x=m x
|[],_,_=>rfl
| (n,v)::r,m,h=>by
 unfold bindL;rw[JV λw hw=>h w (aE _ hw)];split
 ·grind
 ·rfl
theorem JX{kindOf:â->Option m8}:∀{binds}{m:â->Option á},(∀v,(x,v)∉binds)->bindC kindOf binds m x=m x
|[],_,_=>rfl
| (n,v)::r,m,h=>by
 unfold bindC;rw[JX λw hw=>h w (aE _ hw)];split
 ·rfl
 grind
theorem JW{kindOf:â->Option m8}:∀{P:List â}{vs}{i:Nat}{m:â->Option á},P.Nodup->P[i]?=wz x->vs[i]?=wz v->kindOf x=wz .local ->
 bindL kindOf (P.zip vs) m x=wz v
|[],_,_,_,_,h,_,_=>by simp at h
|_::_,[],_,_,_,_,h,_=>by simp at h
|p::P,w::vs,0,m,nd,h1,h2,hk=>by
 simp at h1 h2;subst h1;subst h2;show bindL kindOf ((p,w)::P.zip vs) m p=_;unfold bindL;rw[JV λv a=>(kI.mp nd).1 (G1 a).1,b7 hk];simp
|p::P,w::vs,i+1,m,nd,h1,h2,hk=>by
 unfold bindL;exact JW (i:=i) (kI.mp nd).2 (by simpa using h1) (by simpa using h2) hk
theorem JY{kindOf:â->Option m8}:∀{P:List â}{vs}{i:Nat}{m:â->Option á},P.Nodup->P[i]?=wz x->vs[i]?=wz v->kindOf x≠wz .local ->
 bindC kindOf (P.zip vs) m x=wz v
|[],_,_,_,_,h,_,_=>by simp at h
|_::_,[],_,_,_,_,h,_=>by simp at h
|p::P,w::vs,0,m,nd,h1,h2,hk=>by
 simp at h1 h2;subst h1;subst h2;show bindC kindOf ((p,w)::P.zip vs) m p=_;unfold bindC;rw[JX λv a=>(kI.mp nd).1 (G1 a).1,a8 hk];simp
|p::P,w::vs,i+1,m,nd,h1,h2,hk=>by
 unfold bindC;exact JY (i:=i) (kI.mp nd).2 (by simpa using h1) (by simpa using h2) hk
noncomputable def oQ(N:List â)(vs:List V):St:=vs.map wz++yQ (N.length-vs.length) wy
noncomputable def sV(CX:WC)(P:cO)(w:f8)(K:aH)(mg:â->Option á)(base:ç)(N:List â)(qual:â)(scope:Scope)(f:à)(cd:á)(A:e6)(outer:List Env)(s:ã)(H:Hp)(E:XK):Cx where
 prog:=P
 w:=w
 K:=K
 mg:=mg
 base:=base
 A:=A.deeper (i7 qual scope s.heap.objs.size f cd)
 N:=N
 s₀:=s
 H₀:=H
 env:=i7 qual scope s.heap.objs.size f cd
 outer:=outer
 stack:=i7 qual scope s.heap.objs.size f cd::outer
 ex:=[]
 calm:=wx
 fn:=λ_=>wx
 pn:=[]
 xe:=λe s'=>å (ä P w) (A.deeper (i7 qual scope s.heap.objs.size f cd)) (leaving (i7 qual scope s.heap.objs.size f cd) e) (λ_ nl=>CX outer H s E e nl) (λe' nl=>CX outer H s E e' nl) s'
def N9{a:Scope}{n:Nat}(h:a.names.lookup x=wz .cell):∃c,(x9 n a.names []).lookup x=wz c:=by
 exact Option.isSome_iff_exists.mp (MA a.names n [] (.inl h))
def VQ{K}{mg:â->Option á}{N l:List â}{d:Scope}{f:à}{cd}{A:e6}{s F:ã}{vs:List V}
  (S:bS N l d) (hd:A.handled=wy) (j:RB P w K mg base A outer s H) (M:vs.length=l.length) (r:fN vs us)
  (x:InCallC s s.heap.objs.size (bindL (i7 qual d s.heap.objs.size f cd).kindOf (l.zip us) λ_=>wy) (x9 (s.heap.objs.size+1) d.names []) (bindC (i7 qual d s.heap.objs.size f cd).kindOf (l.zip us) λ_=>wy) F) :
  dL (sV CX P w K mg base N qual d f cd A outer s H E) [] (oQ N vs) H F:=by
 have I:l.length<=N.length:=by have:=d8 iT S.pre;rw[bH]at this;lia
 refine Î x.done λo O Z B=>?_;subst Z;have hI:∀b:à,b∉(sV CX P w K mg base N qual d f cd A outer s H E).ex:=λb z=>b9 (show b∈([]:List à)from z) gC
 refine⟨⟨j.mod,S.kind,gL,gL,aP _,λy z c o g=>?_,λy hy=>?_,λy c _ h=>?_,λ_=>hd,eh j.frames,.inr ⟨gL,gL⟩,λb z=>b9 z (hI b),j.bs,j.bsz,λb _ _=>hI b,λb z=>b9 z (hI b),j.funs,j.frf,j.tab⟩,
  rfl,j.bare,Un.kept B,⟨_,x.toInCall.ns,λi y v o g L=>?_⟩,λy c h=>⟨_,x.cell y c h⟩,j.hok.fresh (aP _),λy c h=>?_,λp m=>b9 (show p∈([]:List (à×Obj))from m) gC,j.hok.kept B,?_⟩
 ·exact name_of_addr x.apart (i3 o) (i3 g)
 ·rcases hy with hy | hy
  ·exact N9 hy
  ·exact b9 gL (S.nofree _ (i3 hy))
 ·exact iQ (x.above y c (i3 h))
 ·have t:i<vs.length:=by
   unfold oQ at g;by_cases t:i<vs.length
   ·exact t
   ·rw[dY (by simpa using t)]at g;rw[lK]at g;split at g<;>cases g
  have G:vs[i]?=wz v:=by
   unfold oQ at g;rw[eQ (by simpa using t),aO]at g
   cases e:vs[i]? with
   |none=>rw[e]at g;cases g
   |some a=>rw[e]at g;cases g;rfl
  refine Â (r.get G) λu C J=>?_
  have m:l[i]?=wz y:=by
   rw[<- S.pre,MN eH];exact o
  have n:l.Nodup:=by rw[<- S.pre];exact S.nd.sublist (DD _ _)
  refine⟨u,J,?_⟩;rcases S.par y (aZ m)with k | k
  ·exact .inl ⟨k,JW n m C k⟩
  ·obtain⟨c,e⟩:=N9 k;refine .inr ⟨.inl k,c,e,?_⟩;have q:=x.cell y c e;rw[JY n m C (by show d.names.lookup y≠_;rw[k];decide)]at q;exact q
 ·exact j.hok.fresh (iQ (x.above y c (i3 h)))
 ·unfold oQ;show _=N.length;rw[aR,aC,xS];lia
def Bl{K:aH}{mg:â->Option á}{k:Nat}{f:à}{name kV}
   {N l:List â} {C:Sp} (U:K.lookup f=wz ⟨oc,od,.func (oZ name qual params body scope dV kV ii pm an db ct),iz⟩) (m:rZ K db qual=wx) (S:bS N l scope)
  (len:∀vs H Q E,C vs H Q E->vs.length=l.length)
  (d:∀A outer s H vs Q E,iF k (A.deeper (i7 qual scope s.heap.objs.size f db))->C vs H Q E ->
   ∃t,DP (sV CX P w K mg base N qual scope f db A outer s H E) body t/\t { nx:=λ_ c=>Q .non c,rt:=Q } (oQ N vs) H) :
  nG P w K mg base CX (k+1) f (oZ name qual params body scope dV kV ii pm an db ct) l C:=by
 refine⟨len,λA outer s H G X vs Q E p i hb r j=>?_⟩;have F:=i.mod.kin.keeps λb o e=>(i.bs b o e).1
 have g:∀y∈l.zip X,scope.names.lookup y.1=wz .local\/(scope.names.lookup y.1=wz .cell/\((x9 (s.heap.objs.size+1) scope.names []).lookup y.1).isSome=wx):=λ⟨n,v⟩ T=>by
  rcases S.par n (G1 T).1 with q | q
  ·exact .inl q
  ·exact .inr ⟨q,MA _ _ _ (.inl q)⟩
 refine codeAny_call_function p.depth (F _ _ U) gL S.co S.gen gL (PySem.W.codeRec_of F m) (hb _ _ _ _ ?_);refine wpAny_newFunctionEnv_cells S.kind g λenv M L x=>?_;subst M;refine⟨(i.mod.nolimit.keeps λb o e=>(i.bs b o e).1).keeps x.toInCall.keep,codeAny_func ?_⟩;refine Â (d A outer s H vs Q E (p.deeper _) j) λt R O=>?_;have I:dL (sV CX P w K mg base N qual scope f db A outer s H E) [] (oQ N vs) H L:=VQ S p.hd i (len _ _ _ _ j) r x;refine eN (R [] L (oQ N vs) H _ I O) (λfl B h=>?_) λe B h=>h
 have fin:∀{a:St}{c:Hp}{v:V}{u:á},dL (sV CX P w K mg base N qual scope f db A outer s H E) [] a c B->fK v u->Q v c->CE outer P w H s Q u B:=
  λ{a c v u} J z q=>⟨v,c,J.os,J.bare,J.base,J.hok,z,q⟩
 cases fl with
 |ret u=>
  refine Ð h λv a c J z q=>?_;exact fin J z q
 |next=>
  refine Î h λa c J q=>?_;exact fin (v:=V.non) J gL q
 |brk=>
  refine Î h λ_ _ _ q=>?_;exact h9 q
 |cont=>
  refine Î h λ_ _ _ q=>?_;exact h9 q
section
variable{X:Cx}{x:â}{p pos:Pos}{e:æ}{a:List æ}{t:TA}{id T:String}{r:List V->Hp->VK->Prop}
def WN(r:List V->Hp->VK->Prop)(t:TA):TE:=λc H Q=>t c H λvs b=>r vs b Q
def mR(k:lV X (.builtin id) r)(m:Gl X x)(n:X.mg x=wy)(q:d9 x=wz (.builtin id))(j:PA X (e::a) t)(o:autoParam (x≠"__name__") zzy._auto_1)(c:autoParam ((x==("__debug__":â))=false) zzy._auto_1)
  (l:autoParam (bV (e::a) X.env=(ww,è e X.env)::bV a X.env) zzz._auto_1) (d:autoParam ((j7 pos (bV a X.env)).any (·.1)=false) zzz._auto_1):PE X (.Call (.Name x p) (e::a) [] pos) (WN r t):=by
 intro b s f H Q I h;refine o7 (zL I m n q ?_ o c);exact PyProof.Rows.callWith_builtin1 (jE (j pos b s f H _ I h) λy w z=>by refine Í z λvs g i v u=>?_;exact k b w f g vs y Q i v u) l d
def tP(k:lV X (.type T) r)(m:Gl X x)(n:X.mg x=wy)(q:d9 x=wz (.type T))(j:PA X (e::a) t)(o:autoParam (x≠"__name__") zzy._auto_1)(c:autoParam ((x==("__debug__":â))=false) zzy._auto_1)
  (l:autoParam (bV (e::a) X.env=(ww,è e X.env)::bV a X.env) zzz._auto_1) (d:autoParam ((j7 pos (bV a X.env)).any (·.1)=false) zzz._auto_1):PE X (.Call (.Name x p) (e::a) [] pos) (WN r t):=by
 intro b s f H Q I h;refine o7 (zL I m n q ?_ o c);exact l3 (jE (j pos b s f H _ I h) λy w ⟨vs,g,i,v,u⟩=>k b w f g vs y Q i v u) l d
end
end L2
namespace HT
section
variable{prog:cO}{w:f8}{A:e6}{E:á->ã->Prop}{s:ã}
def cat_tup{t b:à}{vs a:List á}{Q:á->ã->Prop}(v:jh s.heap t vs.toArray)(hb:jh s.heap b a.toArray)(m:vs≠[])
  (q:a=[]->Q (.ref t) s) (r:a≠[]->Q (.ref s.heap.objs.size) { s with heap:=s.heap.push { cls:=.type "tuple",data:=.seq (vs++a).toArray } })
  (j:vs.length+a.length<=bN):å (ä prog w) A (j8 .Add (.ref t) (.ref b)) Q E s:=by
 obtain⟨⟨cls,l,data,p⟩,g,u,n,hd⟩:=id v;obtain⟨⟨k,d,data2,f⟩,c,h,o,i⟩:=id hb;subst u hd h i;have e:vs.toArray++a.toArray=(vs++a).toArray:=by simp
 by_cases hw:a=[]
 ·exact cq ⟨_,g,gL⟩ ⟨_,c,gL⟩ dk fk vF uB (tG _ _)
   (tuple_addW1 t b vs.toArray a.toArray n o l d p f (by simpa using m) (by simp[hw])) ⟨g,c,q hw⟩
 ·refine cq ⟨_,g,gL⟩ ⟨_,c,gL⟩ dk fk vF uB (tG _ _)
   (tuple_addW2 t b vs.toArray a.toArray n o l d p f (by simpa using m) (by simpa using hw) (by rw[bL,bL];exact j)) ⟨g,c,?_⟩
  rw[e];exact r hw
noncomputable def sIx(n d:Nat):Option Int->Nat
|none=>d
|some v=>if v<0 then(v+(n:Int)).toNat else min v.toNat n
def sIx_none(n d:Nat):sIx n d wy=d:=rfl
def sIx_nat(n d k:Nat):sIx n d (wz (k:Int))=min k n:=by
 rfl
def sIx_le(n d:Nat)(hd:d<=n)(o:Option Int):sIx n d o<=n:=by
 cases o with
 |none=>exact hd
 |some v=>
  show(if v<0 then(v+(n:Int)).toNat else min v.toNat n)<=n;lia
def clip_eq(v:Int)(n d:Nat):(if v<0 then max (v+(n:Int)) 0 else min v (n:Int))=((sIx n d (wz v):Nat):Int):=by
 show(if v<0 then max (v+(n:Int)) 0 else min v (n:Int))=(((if v<0 then(v+(n:Int)).toNat else min v.toNat n):Nat):Int);by_cases a:v<0
 ·simp only[b7 a];lia
 ·simp only[a8 a];lia
def Q6(lo a:Option Int)(n:Nat):s0 lo a 1 (n:Int)=(((sIx n 0 lo:Nat):Int),((sIx n n a:Nat):Int)):=by
 have b:¬((1:Int)<0):=by lia
 unfold s0;refine Prod.ext ?_ ?_
 ·cases lo with
  |none=>rfl
  |some v=>exact clip_eq v n 0
 ·cases a with
  |none=>rfl
  |some v=>exact clip_eq v n n
def PR(i j:Nat):l9 (i:Int) (j:Int) 1=j-i:=by
 unfold l9;lia
def E2{Q:Option Int->ã->Prop}(p:IsPart v o)(h:Q o s):å (ä prog w) A (Builtin.Slice.slicePartIndex v) Q E s:=by
 cases p with
 |none=>exact slicePart_none h
 |int i t=>exact slicePart_int h
def tM{d:à}{lo}{n:Nat}{Q:Int×Int×Nat->ã->Prop}(f:s.heap.IsSliceOf d vl vu .none)(g:IsPart vl lo)(i:IsPart vu b)
  (h:Q (((sIx n 0 lo:Nat):Int),1,sIx n n b-sIx n 0 lo) s):å (ä prog w) A (Builtin.Slice.sliceApplied (.ref d) (pure (n:Int))) Q E s:=by
 refine Å (id f) λos c e a=>?_;refine aG (aG (f6 c a gL (aG (f6 c a gL (aG (f6 c a gL (bB ?_)))))));refine aG (slicePart_none ?_);rw[a8 cS];refine aG (E2 g (aG (E2 i (aG (bB ?_)))));show å _ _ (match s0 lo b 1 (n:Int)with | (lo,b)=>pure (lo,(1:Int),l9 lo b 1)) _ _ s;rw[Q6 lo b n];show å _ _ (pure (((sIx n 0 lo:Nat):Int),(1:Int),l9 ((sIx n 0 lo:Nat):Int) ((sIx n n b:Nat):Int) 1)) _ _ s;rw[PR];exact bB h
def Y2(a:Array á)(i k:Nat):((gA k).filterMap λ(m:Nat)=>a[((i:Int)+(m:Int)*1).toNat]?).toArray=((a.toList.drop i).take k).toArray:=by
 have e:(λ(m:Nat)=>a[((i:Int)+(m:Int)*1).toNat]?)=λm=>a[i+m]?:=by
  funext m;have:((i:Int)+(m:Int)*1).toNat=i+m:=by lia
  rw[this]
 rw[e];have:=pick_run a i k;rw[W3]at this;have b:((λx=>a[x]?)∘λx=>i+x)=λm=>a[i+m]?:=rfl;lia
def getItem_tuple_cut{t i:à}{a:Array á}{lo}{Q:á->ã->Prop}(c:jh s.heap t a)(g:s.heap.IsSliceOf i vl vu .none)(l:IsPart vl lo)(m:IsPart vu hi)
  (hw:¬(sIx a.size 0 lo=0/\sIx a.size a.size hi=a.size))
  (h:Q (.ref s.heap.objs.size) { s with heap:=s.heap.push { cls:=.type "tuple",data:=.seq ((a.toList.drop (sIx a.size 0 lo)).take (sIx a.size a.size hi-sIx a.size 0 lo)).toArray } })
  (k:a.size<=bN):å (ä prog w) A (y8 (.ref t) (.ref i)) Q E s:=by
 have b:sizeOk (.seq ((a.toList.drop (sIx a.size 0 lo)).take (sIx a.size a.size hi-sIx a.size 0 lo)).toArray):=by
  show((a.toList.drop (sIx a.size 0 lo)).take (sIx a.size a.size hi-sIx a.size 0 lo)).toArray.size<=bN;rw[bL,bH,dF,eZ];omega
 refine Å (id g) λos f d j=>?_;unfold y8
 try with_reducible refine n6 ?_
 first | refine aG (bB ?_) | skip
 refine aG (kc c.typeIs cS ?_)
 refine aG (j2 c.typeIs j4
  (mG j4 c.typeIs ij ?_ (iq _ _)))
 show å _ _ (au (.ref t) >>= _) _ _ s;refine aG (tupleItemsOf_ c ?_);refine aG (gn (⟨os,f,d⟩) ?_);rw[b7 cS];refine aG (tM g l m ?_)
 have e:¬((((sIx a.size 0 lo:Nat):Int)==0&&(1:Int)==1&&(sIx a.size a.size hi-sIx a.size 0 lo)==a.size)=wx):=by
  intro q;rw[dH,dH]at q;have n:=bj q.1.1;have o:=bj q.2;exact hw ⟨eH,eH⟩
 show å _ _ (if(((sIx a.size 0 lo:Nat):Int)==0&&(1:Int)==1&&(sIx a.size a.size hi-sIx a.size 0 lo)==a.size)=wx then _ else _) _ _ s;rw[a8 e,Y2]
 first
  |exact aG (iV (bB ⟨_,gL,bB h⟩) b)
  |exact aG (iV (aG (bB (bB ⟨_,gL,bB h⟩))) b)
  |exact aG (aG (iV (bB (bB ⟨_,gL,bB h⟩)) b))
  |exact aG (aG (iV (bB ⟨_,gL,bB h⟩) b))
end
end HT
namespace L2
abbrev TO:=St->Hp->(Option Int->Hp->Prop)->Prop
def PO(X:Cx)(e:Option æ)(t:TO):Prop:=
 ∀a s b H Q,dL X a b H s->t b H Q ->
  å (ä X.prog X.w) X.A (evalPart e X.env) (λu d=>∃o c,dL X a b c d/\IsPart u o/\Q o c) X.xe s
def aCw:TO:=λ_ H Q=>Q wy H
def Ux(t:TE):TO:=λb H Q=>t b H λx a=>∃i,x=.int i/\Q (wz i) a
section
variable{X:Cx}{e:æ}{d:TE}{lo c:Option æ}{tl f:TO}{pos g:Pos}
def aD3:PO X wy aCw:=by
 intro a s b H Q I h;rw[evalPart_none];exact bB ⟨wy,H,I,.none,h⟩
def aD2(h:PE X e d):PO X (wz e) (Ux d):=by
 intro a s n H Q I hw;rw[evalPart_some];refine jE (h a s n H _ I hw) λu o m=>?_;refine Í m λx b j l k=>?_;refine Â k λi z q=>?_;subst z;refine Ã l λt z=>?_;subst z;exact⟨wz i,b,j,.int i t,q⟩
def gV(X:Cx)(r:V->Option Int->Option Int->Hp->VK->Prop):Prop:=
 ∀a s j H x v h i lo c b Q,dL X a j H s->fK x v->s.heap.IsSliceOf b h i .none->IsPart h lo->IsPart i c->r x lo c H Q ->
  ∃T id,typeLookup (.type T) "__getitem__"=pure (wz (.builtin id))/\s.TypeIs v T/\å (ä X.prog X.w) X.A (y8 v (.ref b)) (EP X a j Q) X.xe s
def gV.or{r k:V->Option Int->Option Int->Hp->VK->Prop}(h:gV X r)(t:gV X k):gV X (λx lo c H Q=>r x lo c H Q\/k x lo c H Q):=by
 intro a s p H x v n o lo c m Q I l b i j q;rcases q with q | q
 ·exact h a s p H x v n o lo c m Q I l b i j q
 ·exact t a s p H x v n o lo c m Q I l b i j q
def Iu(r:V->Option Int->Option Int->Hp->VK->Prop)(d:TE)(tl f:TO):TE:=λa H Q=>d a H λx b=>tl a b λl h=>f a h λu H3=>r x l u H3 Q
def Y5{r:V->Option Int->Option Int->Hp->VK->Prop}(C:gV X r)(z:PE X e d)(B:PO X lo tl)(F:PO X c f):PE X (.Subscript e (.Slice lo c wy g) pos) (Iu r d tl f):=by
 intro a s i H Q I h;refine ip (jE (z a s i H _ I h) λv O j=>?_);refine Í j λx n p N K=>?_;refine wpAny_Slice (jE (B a O i n _ p K) λk P r=>?_);refine Í r λl o t G L=>?_;refine jE (F a P i o _ t L) λm s3 j=>?_;refine Í j λu H3 w J M=>?_;rw[evalPart_none];refine bB ?_;refine Í (C a { s3 with heap:=s3.heap.push { cls:=.type "slice",data:=.fields #[k,m,.none] } } i H3 x v k m l u s3.heap.objs.size Q (w.kept (t':=s3.toks) λb ob q=>aK _ q) N (Heap.IsSliceOf.new ..) G J M) λT id y E A=>?_;exact tail_any E y A (by rfl)
noncomputable def QZ(a:List V)(lo c:Option Int):List V:=(a.drop (HT.sIx a.length 0 lo)).take (HT.sIx a.length a.length c-HT.sIx a.length 0 lo)
def C8(a:List V)(lo c:Option Int):(QZ a lo c).length<=a.length:=by
 unfold QZ;rw[bH,dF];lia
def Ko(K:aH):V->Option Int->Option Int->Hp->VK->Prop:=λx lo c H Q=>∃a b,x=.ref a/\tI K H a b /\
 ¬(HT.sIx b.length 0 lo=0/\HT.sIx b.length b.length c=b.length)/\∀p,H p=wy->Q (.ref p) (eS H p (.tup (QZ b lo c)))
def Wz:gV X (Ko X.K):=by
 intro n s B H x v z A lo c y Q I w o t u h;refine Ñ h λa j g p hw q=>?_;subst g;cases w;refine Å (I.tuple p) λk r l m=>?_;have i:k.toArray.size=j.length:=by rw[bL];exact r.length.symm
 refine⟨"tuple",_,PyProof.Rows.slot_tuple_getitem.lookup,l.typeIs,?_⟩;refine HT.getItem_tuple_cut l o t u (by rw[i];exact hw) ?_ (by rw[i];exact m);rw[i];refine⟨.ref s.heap.objs.size,_,I.laid (λb ob q=>aK _ q) (aP _) ?_,gL,q _ (I.hok.fresh (aP _))⟩;exact⟨bK (C8 j lo c) m,_,(r.drop (HT.sIx j.length 0 lo)).take (HT.sIx j.length j.length c-HT.sIx j.length 0 lo),HC.new _ _⟩
def Os(K:aH):R2:=λx y H Q=>∃a b i h,x=.ref a/\y=.ref b/\tI K H a i/\tI K H b h/\i≠[]/\i.length+h.length<=bN /\
 (h=[]->Q (.ref a) H)/\(h≠[]->∀p,H p=wy->Q (.ref p) (eS H p (.tup (i++h))))
def fN.nil_iff(r:fN xs us):us=[]↔xs=[]:=by
 cases r with
 |nil=>simp
 |cons _ _=>simp
def Zo:pF X (j8 .Add) (Os X.K):=by
 intro m s G H x y v u Q I B C h;refine ï h λa b E F f e n hb o k t A=>?_;subst f e;cases B;cases C;refine Å (I.tuple n) λp j r _=>?_;refine Å (I.tuple hb) λl i g _=>?_;refine HT.cat_tup r g (λz=>o (j.nil_iff.mp z)) (λz=>⟨.ref a,H,I,gL,t (i.nil_iff.mp z)⟩) (λz=>?_) (by rw[<- j.length,<- i.length];exact k);refine⟨.ref s.heap.objs.size,_,I.laid (λb ob q=>aK _ q) (aP _) ?_,gL,A (λw=>z (i.nil_iff.mpr w)) _ (I.hok.fresh (aP _))⟩;exact⟨by rw[aR];exact k,_,j.append i,HC.new _ _⟩
end
noncomputable def WP(n:Nat)(i:Int):Option Nat:=if 0<=i then(if i<n then wz i.toNat else wy)else if -(n:Int)<=i then wz (i+n).toNat else wy
noncomputable def atI{b:Type}(a:List b)(i:Int):Option b:=(WP a.length i).bind λj=>a[j]?
def S8{n:Nat}{i:Int}{j:Nat}(h:WP n i=wz j):seqIndex? i n=wz j/\j<n/\-(n:Int)<=i/\i<n:=by
 unfold WP at h;by_cases b:0<=i
 ·rw[b7 b]at h;by_cases a:i<n
  ·rw[b7 a]at h;have e:=c7 h;exact⟨by rw[ic b a,e],eH,eH,a⟩
  ·rw[a8 a]at h;cases h
 ·rw[a8 b]at h;by_cases a:-(n:Int)<=i
  ·rw[b7 a]at h;have e:=c7 h;exact⟨by rw[gl eH a,e],eH,a,eH⟩
  ·rw[a8 a]at h;cases h
def L3{g:Type}{a:List g}{i:Int}{v}(h:atI a i=wz v):∃j,seqIndex? i a.length=wz j/\a[j]?=wz v/\j<a.length/\-(a.length:Int)<=i/\i<a.length:=by
 unfold atI at h
 cases e:WP a.length i with
 |none=>rw[e]at h;cases h
 |some j=>
  rw[e]at h;refine Ô (S8 e) λb c d f=>?_;exact⟨j,b,h,c,d,f⟩
def eR{b:Type}{a:List b}{j:Nat}{v:b}(h:a[j]?=wz v):atI a (j:Int)=wz v:=by
 have c:=(aJ.mp h).1
 have e:WP a.length (j:Int)=wz j:=by
  unfold WP;rw[b7 eH,b7 eH];simp
 unfold atI;rw[e];exact h
def OI{b:Type}(a:List b)(v:b):atI (a++[v]) (-1)=wz v:=by
 have c:(a++[v]).length=a.length+1:=by simp
 have e:WP (a++[v]).length (-1)=wz a.length:=by
  unfold WP;rw[c,a8 cS,b7 eH];congr 1;lia
 unfold atI;rw[e];simp
def EH(b:æ):Prop:=∀o i,dz b ww o i=operate [o,i] (y8 o i)
def hA(X:Cx)(r:R2):Prop:=
 ∀c a b s d H x y v u Q,dL X b d H s->fK x v->fK y u->r x y H Q ->
  dz a ww v u=operate [v,u] (y8 v u)->å (ä X.prog X.w) X.A (subscriptTail c a v u) (EP X b d Q) X.xe s
def OY(X:Cx)(id:String)(r:V->List V->Hp->VK->Prop):Prop:=
 ∀a s d H x c v b Q,dL X a d H s->fK x v->fN c b->r x c H Q ->
  å (ä X.prog X.w) X.A (call (.builtin id) (v::b)) (EP X a d Q) X.xe s
section
variable{X:Cx}{a b:æ}{B C:TE}{pos:Pos}
def hA.or{r g:R2}(h:hA X r)(l:hA X g):hA X (λx y H Q=>r x y H Q\/g x y H Q):=by
 intro d c e s k H x y v u Q I i j q f;rcases q with q | q
 ·exact h d c e s k H x y v u Q I i j q f
 ·exact l d c e s k H x y v u Q I i j q f
def vH(g:hA X r)(f:PE X a B)(hb:PE X b C)(i:EH b):PE X (.Subscript a b pos) (wo r B C):=by
 intro c s m H Q I h;exact ip (Ah f hb I h λv u l x y d e j k q=>g a b c l m d x y v u Q e j k q (i _ _))
def CJ(K:aH):R2:=λx y H Q=>∃p c i v,x=.ref p/\y=.int i/\pE K H p c/\atI c i=wz v/\Q v H
def Da(K:aH):R2:=λx y H Q=>∃p c i v,x=.ref p/\y=.int i/\tI K H p c/\atI c i=wz v/\Q v H
def C0:R2:=λx y H Q=>∃z i c,x=.str z/\y=.int i/\z.length<=bN/\atI z.cps.toList i=wz c/\Q (.str ⟨#[c]⟩) H
def YP:hA X (CJ X.K):=by
 intro m l c s P H x y v u Q I N O h A;refine ð h λp U i z b a M J q=>?_;subst b a;cases N;refine Ã O λt b=>?_;subst b;refine Å (I.list M) λf r g T=>?_;refine Ü (L3 J) λj d E R F G=>?_;refine Â (r.get E) λw n k=>?_;have L:=r.length;have S:=B4;have fin:EP X c P Q w s:=⟨z,H,I,k,q⟩;by_cases o:0<=i
 ·have e:i.toNat=j:=by
   rw[ic o G]at d;exact c7 d
  exact item_listR g.isList o eH (by rw[e];simpa using n) fin A
 ·have e:(i+(f.toArray.size:Int)).toNat=j:=by
   rw[gl eH F]at d;rw[bL,<- L];exact c7 d
  exact gm g.isList.typeIs slot_list_getitem.lookup
   (wpAny_getItem_list_neg g.isList eH (by rw[bL]<;>lia) eH (by rw[e];simpa using n) ⟨gL,fin⟩) A
def Vp:hA X (Da X.K):=by
 intro e d f s R H x y v u Q I F G h A;refine ð h λp P i z b a o n q=>?_;subst b a;cases F;refine Ã G λt b=>?_;subst b;refine Å (I.tuple o) λE r g O=>?_;refine Ü (L3 n) λj l m J L M=>?_;refine Â (r.get m) λw k c=>?_;have N:=B4
 exact gm g.typeIs slot_tuple_getitem.lookup
  (getItem_tuple g eH eH (by rw[bL,<- r.length];exact l) (by simpa using k) ⟨gL,(⟨z,H,I,c,q⟩)⟩) A
def Vo:hA X C0:=by
 intro e d g s J H x y v u Q I r w h p;refine Ú h λz i c b a F n q=>?_;subst b a;refine Ã r λt b=>?_;subst b;refine Ã w λG b=>?_;subst b;refine Ü (L3 n) λj f k A l m=>?_;have o:z.cps.toList.length=z.length:=by simp[o4]
 rw[o]at f l m;have E:=B4
 exact tail_any (am s z t) slot_str_getitem.lookup (getItem_str (by
  lia) (by grind) ⟨.str ⟨#[c]⟩,H,I.tok _,⟨_,gL⟩,q⟩) p
def yh(K:aH):R2:=λx y H Q=>CJ K x y H Q\/Da K x y H Q\/C0 x y H Q
def aY:hA X (yh X.K):=YP.or (Vp.or Vo)
def QC(c:List á)(n j:Nat)(u:á):e8 (·.setIfInBounds j u) { cls:=.type "list",data:=.seq c.toArray n }={ cls:=.type "list",data:=.seq (c.set j u).toArray n }:=by
 simp[e8]
theorem dL.lst{pins σ H}{s:ã}{p:à}{d:List V}(I:dL X pins σ H s)(h:H p=wz (.lst d)) :
  ∃c n,fN d c/\s.heap.get? p=wz { cls:=.type "list",data:=.seq c.toArray n }/\d.length<=bN:=by
 refine Ç (I.hok p _ h) λz c n r e=>?_;exact⟨c,n,r,e,z⟩
def dL.lstUpd{s:ã}{p:à}{m i:List V}{d c:List á}{n g:Nat}{f:Obj->Obj}(I:dL X pins σ H s)(h:H p=wz (.lst m))
  (k:s.heap.get? p=wz { cls:=.type "list",data:=.seq d.toArray n }) (j:f { cls:=.type "list",data:=.seq d.toArray n }={ cls:=.type "list",data:=.seq c.toArray g }) (r:fN i c) (l:i.length<=bN) (t:Nat) :
  dL X pins σ (eS H p (.lst i)) { s with heap:=s.heap.update p f,toks:=t }:=by
 have e:(s.heap.update p f).get? p=wz { cls:=.type "list",data:=.seq c.toArray g }:=by
  rw[qM f k (by rw[j]<;>rfl),j]
 refine I.write (by rw[h];trivial) (.inl gL) (λb u hb q=>(gH _ _ (i5 hb)).trans q) ⟨_,e⟩ ?_;exact⟨l,c,g,r,e⟩
def Fv:V->V->V->Hp->(Hp->Prop)->Prop:=λo i v H Q=>∃p c k j,o=.ref p/\i=.int k/\H p=wz (.lst c)/\WP c.length k=wz j/\Q (eS H p (.lst (c.set j v)))
def E5:Ck X Fv:=by
 intro d s K H o i v O N u Q I ro F G h;refine ð h λp J k j b a z A q=>?_;subst b a;cases ro;refine Ã F λt b=>?_;subst b;refine Í (I.lst z) λc n r l E=>?_;refine Ô (S8 A) λe L x y=>?_;have g:=r.length;have M:=B4
 have m:dL X d K (eS H p (.lst (J.set j v))) { s with heap:=s.heap.update p (e8 (·.setIfInBounds j u)) }:=
  I.lstUpd z l (QC c n j u) (r.set G j) (by rw[aF4];exact E) s.toks
 by_cases w:0<=k
 ·have f:k.toNat=j:=by
   rw[ic w y]at e;exact c7 e
  exact PySem.W.ki_setAt l w eH (by rw[bL,<- g];exact y) (by rw[f];exact⟨_,m,q⟩)
 ·have f:(k+(c.toArray.size:Int)).toNat=j:=by
   rw[gl eH x]at e;rw[bL,<- g];exact c7 e
  exact PySem.W.ki_setBack l eH (by rw[bL,<- g];exact x) eH (by rw[f];exact⟨_,m,q⟩)
def KJ(lo c:Option Int)(n:Nat):(u8 lo c wy n).1=((HT.sIx n 0 lo:Nat):Int)/\(u8 lo c wy n).2.1=((HT.sIx n n c:Nat):Int)/\(u8 lo c wy n).2.2=1:=by
 refine⟨?_,?_,gL⟩
 ·cases lo with
  |none=>simp[u8,HT.sIx]
  |some i=>
   simp only[u8,HT.sIx,WY,show(1:Int)>0 by decide,x6];by_cases h:i<0
   ·simp only[h,x6]<;>lia
   ·simp only[h,u6]<;>lia
 ·cases c with
  |none=>simp[u8,HT.sIx]
  |some i=>
   simp only[u8,HT.sIx,WY,show(1:Int)>0 by decide,x6];by_cases h:i<0
   ·simp only[h,x6]<;>lia
   ·simp only[h,u6]<;>lia
def G7(c:List á)(lo d:Option Int):slicePick c.toArray lo d wy=((c.drop (HT.sIx c.length 0 lo)).take (HT.sIx c.length c.length d-HT.sIx c.length 0 lo)).toArray:=by
 refine ñ (KJ lo d c.toArray.size) λe f g=>?_;unfold slicePick;rw[e,f,g];simp only[sliceRange_one,pick_run,bL]<;>rfl
def Dc(K:aH):V->Option Int->Option Int->Hp->VK->Prop:=λx lo d H Q=>∃a c,x=.ref a/\pE K H a c/\∀p,H p=wy->Q (.ref p) (eS H p (.lst (QZ c lo d)))
def aDp:gV X (Dc X.K):=by
 intro g s w H x v t u lo e p Q I o i m n h;refine Í h λa d z j q=>?_;subst z;cases o;refine Å (I.list j) λl r f k=>?_;have c:=r.length;refine⟨"list",_,slot_list_getitem.lookup,f.isList.typeIs,?_⟩;refine wpAny_getItem_list_slice f.isList i m n .none gC ?_ (by rw[bL]<;>lia);rw[G7,<- c];refine⟨.ref s.heap.objs.size,_,I.laid (λb ob q=>aK _ q) (aP _) ?_,gL,q _ (I.hok.fresh (aP _))⟩;exact⟨bK (C8 d lo e) k,_,0,(r.drop (HT.sIx d.length 0 lo)).take (HT.sIx d.length d.length e-HT.sIx d.length 0 lo),bA _ gL⟩
noncomputable def A5:V->Bool
|.non=>wx
|.bl _=>wx
|.int _=>wx
|.str _=>wx
|_=>ww
noncomputable def oD:V->V->Bool
|.non,.non=>wx
|.bl a,.bl b=>a==b
|.bl a,.int b=>(if a then 1 else 0)==b
|.int a,.bl b=>a==(if b then 1 else 0)
|.int a,.int b=>a==b
|.str a,.str b=>a==b
|_,_=>ww
def Vc(f:fK y u)(c:fK x v)(g:A5 y=wx)(e:A5 x=wx):SeqAt.EqAt A s u v (oD y x):=by
 cases y with
 |non=>
  cases f
  cases x with
  |non=>cases c;exact SeqAt.EqAt.same _
  |bl b=>cases c;exact SeqAt.EqAt.none_bool b
  |int b=>refine Ã c λt z=>?_;subst z;exact SeqAt.EqAt.none_int b t
  |str b=>refine Ã c λt z=>?_;subst z;exact SeqAt.EqAt.none_str b t
  |_=>exact b9 (show ww=wx from e) bT
 |bl a=>
  cases f
  cases x with
  |non=>cases c;exact SeqAt.EqAt.bool_none a
  |bl b=>cases c;exact SeqAt.EqAt.bool_bool a b
  |int b=>refine Ã c λt z=>?_;subst z;exact SeqAt.EqAt.bool_int a b t
  |str b=>refine Ã c λt z=>?_;subst z;exact SeqAt.EqAt.bool_str a b t
  |_=>exact b9 (show ww=wx from e) bT
 |int a=>
  refine Ã f λd z=>?_;subst z
  cases x with
  |non=>cases c;exact SeqAt.EqAt.int_none a d
  |bl b=>cases c;exact SeqAt.EqAt.int_bool a d b
  |int b=>refine Ã c λt z=>?_;subst z;exact SeqAt.EqAt.int_int a d b t
  |str b=>refine Ã c λt z=>?_;subst z;exact du a d b t
  |_=>exact b9 (show ww=wx from e) bT
 |str a=>
  refine Ã f λd z=>?_;subst z
  cases x with
  |non=>cases c;exact SeqAt.EqAt.str_none a d
  |bl b=>cases c;exact SeqAt.EqAt.str_bool a d b
  |int b=>refine Ã c λt z=>?_;subst z;exact dv a d b t
  |str b=>refine Ã c λt z=>?_;subst z;exact SeqAt.EqAt.str_str a d b t
  |_=>exact b9 (show ww=wx from e) bT
 |_=>exact b9 (show ww=wx from g) bT
noncomputable def oT(x:V)(u:á):Bool:=match u with
|.none=>oD .non x
|.bool b=>oD (.bl b) x
|.int i _=>oD (.int i) x
|.str z _=>oD (.str z) x
|_=>ww
def Hr(r:fK y u)(f:A5 y=wx):oT x u=oD y x:=by
 cases y with
 |non=>cases r;rfl
 |bl b=>cases r;rfl
 |int i=>obtain⟨t,rfl⟩:=r;rfl
 |str z=>obtain⟨t,rfl⟩:=r;rfl
 |_=>exact b9 (show ww=wx from f) bT
theorem L4:∀{c:List V}{d:List á},fN c d->c.all A5=wx->d.any (oT x)=c.any λy=>oD y x:=by
 intro _ _ h f
 induction h with
 |nil=>rfl
 |cons r t n=>rw[MO,dH]at f;rw[kP,kP,Hr r f.1,n f.2]
theorem FS(e:fK x v)(d:A5 x=wx):∀{c:List V}{us},fN c us->c.all A5=wx->∀u∈us,SeqAt.EqAt A s u v (oT x u):=by
 intro _ _ h f
 induction h with
 |nil=>simp
 |cons r t n=>
  intro g hu;rw[MO,dH]at f;rcases aQ.mp hu with rfl | hu
  ·rw[Hr r f.1];exact Vc r e f.1 d
  grind
noncomputable def ym(x:V)(c:List V):Bool:=c.any λy=>oD y x
def Cc(K:aH)(d:Bool):R2:=λx y H Q=>∃p c,y=.ref p/\(pE K H p c\/tI K H p c)/\A5 x=wx/\c.all A5=wx/\Q (.bl (if d then !ym x c else ym x c)) H
def U4:pF X (d6 .In) (Cc X.K ww):=by
 intro f s l H x y v u Q I g j h;refine Õ h λp k z hq e fs q=>?_;subst z;cases j;rcases hq with hq | hq
 ·refine Å (I.list hq) λc r d i=>?_;refine SeqAt.in_listAt (oT x) d.isList (λw hw=>FS g e r fs w (by grind)) ⟨.bl _,H,I,gL,?_⟩;rw[show c.toArray.any (oT x)=c.any (oT x) by simp,L4 r fs];exact q
 ·refine Å (I.tuple hq) λc r d i=>?_;refine SeqAt.in_tupleAt (oT x) d (λw hw=>FS g e r fs w (by grind)) ⟨.bl _,H,I,gL,?_⟩;rw[show c.toArray.any (oT x)=c.any (oT x) by simp,L4 r fs];exact q
def LW:lV X (.builtin "len") (λj H Q=>∃p d,j=[.ref p]/\(pE X.K H p d\/tI X.K H p d)/\Q (.int d.length) H):=by
 intro i s o H j n Q I r h;refine Í h λp d z hq q=>?_;subst z;refine Â (nI r) λu z l=>?_;subst z;cases l;have m:=B4;rcases hq with hq | hq
 ·refine Å (I.list hq) λe g f k=>?_;have c:=g.length;exact Calls.call_len_list f.isList (by grind) ⟨.int d.length,H,I.tok _,⟨s.toks+1,by rw[bL,c]⟩,q⟩
 ·refine Å (I.tuple hq) λe g f k=>?_;have c:=g.length;exact len_tuple f (by grind) ⟨.int d.length,H,I.tok _,⟨s.toks+1,by rw[bL,c]⟩,q⟩
def LV:lV X (.builtin "len") (λd H Q=>∃z,d=[.str z]/\z.length<=bN/\Q (.int z.length) H):=by
 intro c s i H d g Q I r h;refine Å h λz y f q=>?_;subst y;refine Ù (nI r) λu y t x=>?_;subst y x;have e:=B4;exact len_str eH ⟨.int z.length,H,I.tok _,⟨_,gL⟩,q⟩
def lV.or{r e:List V->Hp->VK->Prop}(h:lV X f r)(j:lV X f e):lV X f (λd H Q=>r d H Q\/e d H Q):=by
 intro c s i H d g Q I rs q;rcases q with q | q
 ·exact h c s i H d g Q I rs q
 ·exact j c s i H d g Q I rs q
def kH:lV X (.type "tuple") (λv H Q=>∃p d,v=[.ref p]/\((pE X.K H p d/\∀l,H l=wy->Q (.ref l) (eS H l (.tup d)))\/(tI X.K H p d/\Q (.ref p) H))):=by
 intro f s z H v A Q I r h;obtain⟨p,d,rfl,h⟩:=h;refine Â (nI r) λu b y=>?_;subst b;cases y;rcases h with⟨i,q⟩ | ⟨i,q⟩
 ·refine Å (I.list i) λc k j t=>?_;have n:=k.length;refine call_tuple_list j.isList (λg kp=>?_) (by simp only[bL]<;>lia);have m:=I.kept (t':=s.toks) kp
  have x:dL X f z (eS H g.objs.size (.tup d)) { s with heap:=g.push { cls:=.type "tuple",data:=.seq c.toArray } }:=
   m.laid (t':=s.toks) (λb o e=>aK _ e) (aP _) (show jF X.prog X.w _ _ _ (.tup d)from⟨t,c,k,HC.new _ _⟩)
  exact⟨.ref g.objs.size,_,x,gL,q _ (m.hok.fresh (aP _))⟩
 ·refine Å (I.tuple i) λc k j t=>?_;exact call_tuple_same j ⟨.ref p,H,I,gL,q⟩
def zl(K:aH)(T:String)(x:V)(H:Hp):Prop:=match x with
|.str _=>T="str"
|.int _=>T="int"
|.ref p=>(T="list"/\∃c,pE K H p c)\/(T="tuple"/\((∃o,K.lookup p=wz o/\o.cls=.type "tuple"/\o.dict=wy)\/∃c,tI K H p c)) \/
  (T="dict"/\((∃kvs,H p=wz (.dK kvs))\/∃kvs,H p=wz (.dT kvs)))\/(T="set"/\∃S n,H p=wz (.set S n))
|_=>False
def XJ{s:ã}(I:dL X pins σ H s)(r:fK x v)(ty:zl X.K T x H) :
  s.TypeIs v T/\∀a,v=.ref a->∃ob,s.heap.get? a=wz ob/\ob.dict=none:=by
 cases x with
 |str z=>
  refine Ã r λt y=>?_;subst y;cases (show T="str" from ty);exact⟨am s z t,λ_ e=>nomatch e⟩
 |int i=>
  refine Ã r λt y=>?_;subst y;cases (show T="int" from ty);exact⟨typeIs_int s i t,λ_ e=>nomatch e⟩
 |ref p=>
  cases r;rcases ty with⟨rfl,l,h⟩ | ⟨rfl,⟨o,d,g,hd⟩ | ⟨l,h⟩⟩ | ⟨rfl,d⟩ | ⟨rfl,S,n,d⟩
  ·refine Å (I.list h) λk _ j _=>?_;refine⟨j.isList.typeIs,λa e=>?_⟩;cases e;refine Ñ j λo n e c hd _=>?_;exact⟨o,e,hd⟩
  ·refine⟨⟨o,I.kIn p o d,g⟩,λa e=>?_⟩;cases e;exact⟨o,I.kIn _ o d,hd⟩
  ·refine Å (I.tupleN h) λo e g hd=>?_;refine⟨⟨o,e,g⟩,λa f=>?_⟩;cases f;exact⟨o,e,hd⟩
  ·have z:∃o,s.heap.get? p=wz o/\o.ExactDict:=by
    rcases d with⟨kvs,d⟩ | ⟨kvs,d⟩
    ·refine ì (I.hok p _ d) λ_ _ _ _ o _ _ e ex _=>?_;exact⟨o,e,ex⟩
    ·refine ì (I.hok p _ d) λ_ _ _ _ o _ _ e ex _=>?_;exact⟨o,e,ex⟩
   refine Â z λo e ex=>?_;refine⟨⟨o,e,ex.1⟩,λa f=>?_⟩;cases f;exact⟨o,e,ex.2.1⟩
  ·refine ò (I.hok p _ d) λo _ _ _ e ex _=>?_;refine⟨⟨o,e,ex.1⟩,λa f=>?_⟩;cases f;exact⟨o,e,ex.2.1⟩
 |_=>exact h9 ty
def Bc(K:aH)(T:String)(r:V->List V->Hp->VK->Prop)(to:TE):TE:=λd H Q=>to d H λx c=>zl K T x c/\r x [] c Q
def RQ(K:aH)(T:String)(r:V->List V->Hp->VK->Prop)(to:TE)(t:TA):TE:=λd H Q=>to d H λx c=>zl K T x c/\t d c λf e=>r x f e Q
variable{o e:æ}{m:List æ}{to:TE}{t:TA}{name:â}{g d:Pos}{T id:String}{r:V->List V->Hp->VK->Prop}
def ZA(z:PlainAttrs T)(slot:Slot T name id)(j:typeOf (.builtin id)=pure (.type "method_descriptor"))(w:OY X id r)(y:PE X o to)
  (f:autoParam (g8 o name X.env (è o X.env)=è o X.env) zzz._auto_1) (i:autoParam ((g.endLine==d.line)=true) zzz._auto_1):PE X (.Call (.Attribute o name g) [] [] d) (Bc X.K T r to):=by
 intro c s n H Q I h;refine wpAny_Call_method0_late f i (jE (y c s n H _ I h) λv E F=>?_);refine Ñ F λx p k l ty A=>?_;refine Ä (XJ k l ty) λq u=>?_;exact⟨T,id,z,slot,j,q,u,ed gL (PySem.evalArgs_none (w c E n p x [] v [] Q k l .nil A))⟩
def gY(M:PlainAttrs T)(slot:Slot T name id)(l:typeOf (.builtin id)=pure (.type "method_descriptor"))(G:OY X id r)(J:PE X o to)(F:PA X (e::m) t)
  (i:autoParam (g8 o name X.env (è o X.env)=è o X.env) zzz._auto_1)
  (k:autoParam (((j7 d (bV (e::m) X.env)).all (λx=>!x.1)&&(gx d (dy [] X.env)).all (λx=>x.1.isSome)
  &&decide ((e::m).length+([]:List Keyword).length+(if([]:List Keyword).isEmpty then 0 else 1)<30))=true) zzz._auto_1)
  (j:autoParam ((g.endLine==d.line)=true) zzz._auto_1) (L:autoParam (bV (e::m) X.env=(ww,è e X.env)::bV m X.env) zzz._auto_1) (f:autoParam ((j7 d (bV m X.env)).any (·.1)=false) zzz._auto_1) :
  PE X (.Call (.Attribute o name g) (e::m) [] d) (RQ X.K T r to t):=by
 intro c s n H Q I h;refine wpAny_Call_method_late i k j gL (jE (J c s n H _ I h) λv R W=>?_);refine Ñ W λx w p u ty N=>?_;refine Ä (XJ p u ty) λA E=>?_;refine⟨T,id,M,slot,l,A,E,?_⟩;have q:=F d c R n w _ p N;rw[L]at q |-
 refine ed (by show(ww||(j7 d (bV m X.env)).any (·.1))=ww;rw[f]<;>rfl) (er ?_);exact jE q λU S w=>by refine Í w λvs y z P O=>?_;exact G c S n y x vs v U Q z u P O
end
def Ik(X:Cx)(id:String)(r:V->List V->Hp->VK->Prop):Prop:=
 ∀a s d H x c v b Q,dL X a d H s->fK x v->fN c b->r x c H Q ->
  å (ä X.prog X.w) X.A (call (.builtin id) (v::b)) (EP X a d Q) X.xe s
def fN.one{x us}(h:fN [x] us):∃u,us=[u]/\fK x u:=by cases h with|cons r t=>cases t;exact⟨_,gL,r⟩
section
variable{X:Cx}{a:List (à×Obj)}{c:St}{H:Hp}{s:ã}{l:à}{d b:List V}
def dL.lset{h g:List á}{n:Nat}{f:Array á->Array á}{p:Nat}(I:dL X a c H s)(i:H l=wz (.lst d))
  (e:s.heap.get? l=wz { cls:=.type "list",data:=.seq h.toArray n }) (j:f h.toArray=g.toArray) (m:fN b g) (o:b.length<=bN) :
  dL X a c (eS H l (.lst b)) { s with heap:=s.heap.update l (e8 f),toks:=p }:=by
 have q:=PySem.IsL.update e f;rw[j]at q;refine I.write (by rw[i];exact trivial) (.inl gL) (λr u hb k=>(gH s.heap (e8 f) (i5 hb)).trans k) ⟨_,q⟩ ?_;exact⟨o,g,_,m,q⟩
def dL.lnew{e:List á}{h:Nat}(I:dL X a c H s)(f:fN b e)(g:b.length<=bN) :
  dL X a c (eS H s.heap.objs.size (.lst b)) { s with heap:=s.heap.push { cls:=.type "list",data:=.seq e.toArray },toks:=h }:=
 I.laid (λ_ _ q=>aK _ q) (aP _) ⟨g,e,0,f,bA _ gL⟩
theorem dL.fresh(I:dL X a c H s):H s.heap.objs.size=none:=I.hok.fresh (aP _)
def dL.lstM(I:dL X a c H s)(g:H l=wz (.lst d)):d.length<=bN/\∃f n,fN d f/\d.length=f.length/\s.heap.get? l=wz { cls:=.type "list",data:=.seq f.toArray n }:=by
 refine Ç (I.hok l _ g) λz f n r e=>?_;exact⟨z,f,n,r,r.length,e⟩
def ZS{n:Nat}(h:n<=bN):t9 n=false:=by
 exact b8 eH
end
section
variable{X:Cx}
def R7:V->List V->Hp->VK->Prop:=λx vs H Q=>∃l a y,x=.ref l/\vs=[y]/\H l=wz (.lst a)/\a.length<bN/\Q .non (eS H l (.lst (a++[y])))
def nY:Ik X "list.append" R7:=by
 intro c s o H x vs v k Q I g f h;refine Ú h λl m y w t b j q=>?_;subst w t;cases g;refine Â f.one λu w d=>?_;subst w;refine ó (I.lstM b) λz a n r i e=>?_;refine u4 F.slot_list_append ⟨_,e,gL⟩ F.entry_list_append (F.args_list_append_2 _ _) (PySem.list_append l a.toArray n u (by rw[bL];lia)) ⟨e,?_⟩;refine⟨.non,_,I.lset b e gC (r.append (.cons d .nil)) ?_,gL,q⟩;rw[aR,qL];lia
end
end L2
namespace Att
open PySem.W PySem.Calls
def DK{h}:∀ns vs,WellAll P h vs (ns.map WData.int)->IntsAre vs ns:=by
 intro ns
 induction ns with
 |nil=>
  intro vs w;rw[jC]at w;cases w;exact .nil
 |cons n ns c=>
  intro vs w;rw[aX]at w
  cases w with
  |cons a b=>
   cases a;exact .cons _ _ (c _ b)
def UV{l:OpenLaw}{n:Nat}(o:l.most=wz n){h:ç}{vals}
  (b:l.row.toRowW.claim.pre args=wx) (i:WellAll P h vals args) :
  ∃a vs ns,vals=[d7 a]/\args=[WData.list (ns.map WData.int)]/\h.get? a=wz { cls:=.type "list",data:=.seq vs.toArray }/\IntsAre vs ns/\ns.length<=n:=by
 refine Í (hasAllW_cons ((pre_splitW b).1)) λd r z j k=>?_;subst z;obtain rfl:=hasAllW_nil k;refine Â (hasW_list j) λu z m=>?_;subst z;refine Ã (items_int m) λns z=>?_;subst z
 have e:ns.length<=n:=by
  have f:(WTm.not (.lt (.lit (.int (n:Int))) (.len (.arg 0)))).holds [] { args:=[.list (ns.map .int)] }=true:=by
   have f:=(holds_andW ((pre_splitW b).2)).1;rw[o]at f;exact f
  have g:=condW_of f (w_not (w_lt w_lit (w_len_list (w_arg gL))));rw[aC]at g;refine aF1 λq=>?_
  first
   | lia
   | lia
 cases i with
 |cons s t=>
  cases t
  cases s with
  |list p c=>exact⟨_,_,ns,gL,gL,p,DK ns _ c,e⟩
def UZ(l:OpenLaw)(args:List WData):l.row.toRowW.claim.post args (.bool wx) args=true:=
 postW_of
  (show WShape.has [] (.bool wx) .bool=wx by rfl)
  (show(WTm.eq .res (.lit (.bool wx))).value [] { args:=args,res:=wz (.bool wx),after:=args }=wz (.bool (wx==wx))from w_eq_bool (w_res gL) w_lit) gL
def attach_call{l:OpenLaw}{n:Nat}{v:(â->Option á)->ç->Prop}{x:f8->ç->Prop}{d:DefRec}
  (J:l.most=wz n) (m:d.params.defaults=[])
  (call:∀w s₀ b mg t fa o u cd c a vs ns,
   Ground q loose [] v w s₀ mg t b.heap->x w b.heap ->
   b.heap.get? fa=wz o->o.data=.func (docDef d.name d.params d.body d.scope u cd c)->b.heap.CodeRec cd d.name->mg d.name=wz (.ref fa) ->
   b.heap.get? a=wz { cls:=.type "list",data:=.seq vs.toArray }->IntsAre vs ns->ns.length<=n->b.gens=#[] ->
   x0 (ä l.prog w) cm (.call (.ref fa) ⟨[.ref a],[]⟩) (λr j=>r=.ok (.ret (.bool wx))/\OldK b.heap j.heap/\j.os=b.os/\v9 j.gens) b) :
  WalkO q loose v x l.row.toRowW d [] (λf vs=>ff f vs):=by
 intro w s₀ b mg t G Y fa o u cd c O kV K hd k z p F y vals N i A M s H;obtain rfl:=Dflts.none z m;obtain rfl:=Dflts.noKw z;refine Ú (UV J i s) λa vs ns Z X h e g=>?_;subst Z X;refine enter_call (ah (call w s₀ b mg t fa o u cd c a vs ns G Y K (fd_plain hd) k p h e g F) λr j L=>?_);refine Ô L λZ B C E=>?_;subst Z;exact⟨.inl ⟨.bool wx,.bool wx,[],gL,λ_=>rfl,.bool wx,UZ l _,λ_=>⟨MP.nil,λ_ I=>(nomatch I)⟩⟩,B,C,E⟩
end Att
namespace L2
theorem HS{vs}{ns:List Int}(h:IntsAre vs ns):fN (ns.map V.int) vs:=by
 induction h with
 |nil=>exact .nil
 |cons n t h i=>exact .cons ⟨t,gL⟩ i
def Ae(H:Hp):Prop:=∀b,H b=wy\/(∃o c,H b=wz (.frz o (.lst c)))\/(tabA=wz b/\∃a,H b=wz (.tbl a))
def aAg{K:aH}{mg mb:â->Option á}{CX:WC}{k:Nat}{fa a:à}{x:â}{sp:Sp}{f:ã}{vs:List á}{ns:List Int}
  (KX:K.In f.heap) (Q:f.heap.Ns iM mg) (hb:f.heap.Ns o6 mb) (Y:∀x:â,x≠"__name__"->mb x=d9 x) (O:f.heap.NoLimit) (hg:f.gens=#[])
  (J:f.heap.get? a=wz { cls:=.type "list",data:=.seq vs.toArray }) (hi:IntsAre vs ns) (hl:ns.length<=bN) (hr:iF k cm)
  (Z:∃L o,mg "__builtins__"=wz (.ref L)/\L≠o6/\f.heap.get? L=wz o/\o.cls=.type "module"/\o.dict=wz o6/\o.data=.plain)
  (C:∀P,tabA=wz P->f.heap.get? P=wz { cls:=.none,data:=.fields #[] }/\K.lookup P=wy/\az f.heap P)
  (F:∀base,K.In base->base.Ns iM mg->nG P w K mg base CX k fa fd [x] sp) (E:∀s u,BindsTo s fd ⟨[u],[]⟩ [(x,u)])
  (tj:∀H,Ae H->pE K H a (ns.map V.int)->sp [.ref a] H (λv _=>v=.bl wx) λ_ _ _=>False)
  (W:∀H e l,CX [] H f (λ_ _ _=>False) e l->False) :
  x0 (ä P w) cm (.call (.ref fa) ⟨[.ref a],[]⟩) (λr l=>r=.ok (.ret (.bool wx))/\OldK f.heap l.heap/\l.os=f.os/\v9 l.gens) f:=by
 have rv:=HS hi
 have aT:∀P,tabA=wz P->P≠a:=λP e z=>by
  grind
 have A:∀H:Hp,Ae H->pE K H a (ns.map V.int)->rG P w H f.heap->(∀b,H b≠wy->b=a\/tabA=wz b)->(H a≠wy->K.lookup a=wy)->Tb H ->
   x0 (ä P w) cm (.call (.ref fa) ⟨[.ref a],[]⟩) (λr l=>r=.ok (.ret (.bool wx))/\OldK f.heap l.heap/\l.os=f.os/\v9 l.gens) f:=by
  intro H hO hS hok U hK X;have i:∀{b:à}{o:Obj},f.heap.get? b=wz o->H b=wy->(QQ f.heap H).get? b=wz o:=λe n=>aAv e n
  have hI:∀{b:à}{o:Obj}{S:Array fv}{R:Nat},f.heap.get? b=wz o->o.data=.dict S R->H b=none:=λ{b o S R} e d=>by
   grind
  have um:∀{b:à}{o:Obj},f.heap.get? b=wz o->o.data=.plain->H b=none:=λ{b o} e d=>by
   grind
  have y:∀{b:à}{m:â->Option á},f.heap.Ns b m->(QQ f.heap H).Ns b m:=λ{b m} ⟨o,S,R,e,d,r⟩=>⟨o,S,R,i e (hI e d),d,r⟩
  have N:=λb o e=>i (KX b o e) (by
   grind)
  have e0:RB P w K mg (QQ f.heap H) cm [] f H:=⟨gL,(⟨N,y Q,⟨mb,y hb,Y⟩,by refine Â O λmc j I=>?_;exact ⟨mc,y j,I⟩,by grind⟩),λb o e=>Zl e,mI (VR _ _),trivial,λb hb=>b9 (show b∈([]:List à)from hb) gC,hok,.of_eq hg,X⟩;refine ah ((F _ N (y Q)).run cm [] f H ⟨[.ref a],[]⟩ [.ref a] [.ref a] _ _ hr e0 (E f (.ref a)) (.cons gL .nil) (tj H hO hS)) λr l h=>?_
  cases r with
  |error e=>exact(W H e l h).elim
  |ok fl=>
   cases fl with
   |next=>exact h9 h
   |brk=>exact h9 h
   |cont=>exact h9 h
   |ret u=>
    refine í h λv H' os bare un B r' q=>?_;subst q;obtain rfl:=r'
    have old:∀b o,f.heap.get? b=wz o->l.heap.get? b=wz o\/(az f.heap b/\o={ cls:=.none,data:=.fields #[] }/\∃qs:Array á,l.heap.get? b=wz { cls:=.none,data:=.fields qs }):=λb o e=>by
     cases q:H b with
     |none=>exact .inl (un.keep b o e q (by intro z;exact b9 (show b∈([]:List à)from z) gC) gC)
     |some u=>
      rcases hO b with z | ⟨ob,xs,z⟩ | ⟨t,ps,z⟩
      ·lia
      ·have z2:=un.frzs b ob _ z;refine Ä (hok b _ z) λe1 _=>?_;refine Ä (B b _ z2) λT _=>?_;lia
      ·refine ñ (C b t) λj I h3=>?_;refine Ã (un.tbls b ps z) λm z2=>?_;refine Â (B b _ z2) λqs T _=>?_;grind
    refine⟨gL,⟨λb o e=>?_,λb o e=>?_⟩,os,bare⟩
    ·rcases old b o e with j | ⟨j,rfl,qs,I⟩
     ·exact .inl j
     ·exact .inr (.inl ⟨j,gL,#[],qs,gL,by rw[I];simp⟩)
    grind
 cases hk:K.lookup a with
 |some o=>
  have e:=KX a o hk;rw[J]at e;cases e;refine A (λb=>if tabA=wz b then wz (.tbl #[])else wy) (λb=>?_) (.inr ⟨_,vs.toArray,_,hk,gL,gL,gL,by rw[bL,hi.length];exact hl,by lia⟩) (λb u z=>?_) (λb z=>?_) (λz=>?_) λP e=>⟨#[],b7 e⟩
  ·grind
  ·by_cases hb:tabA=wz b
   ·have G:=(b7 hb).symm.trans z;cases G;exact⟨#[],(C b hb).1,trivial,λp c q=>by cases q⟩
   lia
  ·lia
  lia
 |none=>
  refine A (λb=>if tabA=wz b then wz (.tbl #[])else if b=a then wz (.frz { cls:=.type "list",data:=.seq vs.toArray } (.lst (ns.map V.int)))else wy) (λb=>?_) (.inl (.inr ⟨{ cls:=.type "list",data:=.seq vs.toArray },(a8 λe=>aT a e gL).trans (b7 gL)⟩)) (λb u z=>?_) (λb z=>?_) (λ_=>hk) λP e=>⟨#[],b7 e⟩
  ·grind
  ·by_cases g:tabA=wz b
   ·have G:=(b7 g).symm.trans z;cases G;exact⟨#[],(C b g).1,trivial,λp c q=>by cases q⟩
   ·by_cases hb:b=a
    ·have G:=((a8 g).trans (b7 hb)).symm.trans z;cases G;subst hb;exact⟨J,by grind,vs,_,rv,J⟩
    lia
  lia
def aCt{l:br}{n k:Nat}{I:(â->Option á)->ç->Prop}{p:f8->ç->Prop}{d:DefRec}{K:Params->aH}{CX:f8->WC}{sp:f8->Sp}
  (U:l.most=wz n) (A:n<=bN) (y:d.params.defaults=[]) (X:iF k cm)
  (Q:∀w h,p w h->(K w.params).In h) (O:∀w h,p w h->∀P,tabA=wz P->h.get? P=wz { cls:=.none,data:=.fields #[] }/\(K w.params).lookup P=wy/\az h P)
  (F:∀w mg fa h,(K w.params).In h->h.Ns iM mg->mg d.name=wz (.ref fa) ->
   ∃r,(∀s u,BindsTo s r ⟨[u],[]⟩ [(x,u)]) /\
    ∀base,(K w.params).In base->base.Ns iM mg->nG l.prog w (K w.params) mg base (CX w) k fa r [x] (sp w))
  (B:∀(w:f8)H(a:à)(ns:List Int),ns.length<=n->Ae H->pE (K w.params) H a (ns.map V.int)->sp w [.ref a] H (λv _=>v=.bl wx) λ_ _ _=>False)
  (t:∀w H s e C,CX w [] H s (λ_ _ _=>False) e C->False) :
  aCl q loose I p l.row.toRowW d [] (λf vs=>ff f vs):=by
 refine Att.attach_call U y λw s₀ m mg mb fa o pm cd J a vs ns G Y Z hd R z j i c S=>?_;have E:=Q w _ Y;refine Â (F w mg fa _ E G.T.g z) λr hb L=>?_;exact aAg E G.T.g G.T.b G.T.builtins G.T.nolimit S j i (bK c A) X G.T.bmain (O w _ Y) L hb (λH M N=>B w H a ns c M N) λH e C=>t w H m e C
noncomputable def BA(s:é):Arguments:=match s with
|.FunctionDef _ a _ _ _ _ _ _ _ _=>a
|_=>{ posonlyargs:=[],args:=[],vararg:=wy,kwonlyargs:=[],kw_defaults:=[],kwarg:=wy,defaults:=[] }
noncomputable def lO(s:é):List Stmt:=match s with
|.FunctionDef _ _ b _ _ _ _ _ _ _=>b
|_=>[]
noncomputable def aV(s:é):Scope:=match s with
|.FunctionDef _ _ _ _ _ _ sc _ _ _=>sc
|_=>{ kind:=.function,names:=[],isGenerator:=ww,isCoroutine:=ww }
abbrev sC:WC:=λ_ _ _ _ _ _=>False
abbrev E0:XK:=λ_ _ _=>False
def gZ:wO sC X E0:=λ_ _ _ _ _ _ _ h=>h.elim
structure OZ(K:aH)(x qual:â)(st:é)(f:à)(fd:iW):Prop where
 ex:∃(oc:á)(od:Option à)(kV ii pm:á)(an:Option à)(db ct:á)(iz:Array (Option á)),
  fd=oZ x qual (BA st) (lO st) (aV st) .none kV ii pm an db ct/\K.lookup f=wz ⟨oc,od,.func fd,iz⟩/\rZ K db qual=wx
 kp:gR K (.ref f)=wx
section
variable{P:cO}{w:f8}{K:aH}{mg:â->Option á}{base:ç}
def OZ.ok{st}{f:à}{N e:List â}{k:Nat}{g:Sp}(F:OZ K x qual st f fd)(S:bS N e (aV st))(len:∀vs H Q E,g vs H Q E->vs.length=e.length)
  (b:∀a A outer s H vs Q E,iF k (A.deeper (i7 qual (aV st) s.heap.objs.size f a))->g vs H Q E ->
   ∃t,DP (sV sC P w K mg base N qual (aV st) f a A outer s H E).nox (lO st) t/\t { nx:=λ_ i=>Q .non i,rt:=Q } (oQ N vs) H):nG P w K mg base sC (k+1) f fd e g:=by
 refine ô F.ex λo p kV j r an a ct n z m c=>?_;subst z;refine Bl m c S len λA outer s H vs Q E l d=>?_;refine Â (b a A outer s H vs Q E l d) λt h q=>?_;exact⟨t,h.nox,q⟩
def OZ.binds{st}{f:à}{d:List â}(F:OZ K x qual st f fd)
  (h:∀kV b c an a ct e,e.length=d.length->bindArgs (oZ x qual (BA st) (lO st) (aV st) .none kV b c an a ct) ⟨e,[]⟩=pure (d.zip e)):rY K fd d []:=by
 refine ô F.ex λk l kV b c an a ct i z j g=>?_;subst z;exact .all (h kV b c an a ct)
def Ht{st}{f:à}{kV}(l:K.lookup f=wz ⟨oc,od,.func (oZ x qual (BA st) (lO st) (aV st) .none kV ii pm an db ct),iz⟩)
  (c:rZ K db qual=wx) (k:gR K (.ref f)=wx):OZ K x qual st f (oZ x qual (BA st) (lO st) (aV st) .none kV ii pm an db ct):=⟨⟨oc,od,kV,ii,pm,an,db,ct,iz,gL,l,c⟩,k⟩
end
def US{n:Nat}(h:n<=1000):n<bN:=tH h cS
section
variable{X:Cx}
def pv(i:Nat){x:â}(b:autoParam (X.N[i]?=wz x) zzz._auto_1)(c:autoParam (zd X.env.scope x) zzn._auto_1)(hd:autoParam ((x==("__debug__":â))=false) zzy._auto_1)
  (a:autoParam ((x==("__classdict__":â))=false) zzy._auto_1):PE X (.Name x pos) (pD i):=Y3 b c hd a
end
def bF(H a:Hp):Prop:=∀b o,H b=wz o->a b=wz o
def bF.refl(H:Hp):bF H H:=λ_ _ h=>h
def bF.trans(a:bF H H1)(b:bF H1 H2):bF H H2:=λc o h=>b c o (a c o h)
def bF.seq{K}{a:à}(e:bF H H')(h:pE K H a xs):pE K H' a xs:=by
 rcases h with(h | ⟨o,h⟩) | h
 ·exact .inl (.inl (e _ _ h))
 ·exact .inl (.inr ⟨o,e _ _ h⟩)
 ·exact .inr h
def Zx{E:á->ã->Prop}{Q:Unit->ã->Prop}(a:Q () s) :
  å M A (aq tg it (.str z t)) Q E s:=by
 cases tg<;>first
  |exact bB a
  | (cases it<;>exact bB a)
noncomputable def zi(z:â):It:=⟨λi _=>i<z.cps.size,λi H x a=>a=H/\∃c,z.cps[i]?=wz c/\x=.str ⟨#[c]⟩,λi _=>z.cps.size<=i⟩
def UM{K}(it:à)(z:â)(t:Tok)
  (W:∀A,A.handled=wy->Walks P w A it [it] [it] z.cps.size (SignAt z) (λi h=>h.IsStrIter it ty z t i))
  (S:∀A i s Q E,s.heap.IsStrIter it ty z t i->Q (.ref it) s->å (ä P w) A (ja (.ref it)) Q E s) :
  OJ P w K tg (zi z) [it] it (λi h=>i<=z.cps.size/\h.IsStrIter it ty z t i) where
 mem:=by simp
 obj:=λi h st b hb=>by
  obtain rfl:b=it:=by grind
  refine õ st λ_ o e c d=>?_;grind
 keep:=λi h h' st k=>by
  refine È st λl o e r=>?_;exact⟨l,o,k it gC o e,r⟩
 item:=by
  intro X hP hw hK hc i pins s σ H E I hf st hg;refine Ò (hf it gC) λf0 f1 f2 f3 f4 f5=>?_;refine(W X.A (I.ok.hd hc)).item i s _ _ hg st.2 λv h' tk hv gs kk=>?_;refine Î hv λc u hx y=>?_;subst y;exact⟨_,gL,Zx ⟨.str ⟨#[c]⟩,H,(I.turned (λb o hb e=>kk b o (by grind) e) f0 f1 f3 f4 f5),⟨u,gL⟩,⟨gL,c,hx,gL⟩,⟨hg,gs⟩,λb hb=>(hf b hb).1⟩⟩
 done:=by
  intro X hP hw hK hc i pins s σ H E I hf st hg;refine Ò (hf it gC) λf0 f1 f2 f3 f4 f5=>?_;have e:=Nat.le_antisymm st.1 hg;subst e;exact(W X.A (I.ok.hd hc)).done s _ _ st.2 λh' tk kk=>⟨gL,I.turned (λb o hb e=>kk b o (by grind) e) f0 f1 f3 f4 f5⟩
 self:=λA i s Q E st h=>S A i s Q E st.2 h
def Kz(K:aH)(tl:TE):TI:=λd H R=>tl d H λx b=>(∃a,x=.ref a/\(∃c,pE K b a c)/\R (Bu K a) b)\/(∃a,x=.ref a/\(∃c,tI K b a c)/\R (Bs K a) b)\/∃z,x=.str z/\R (zi z) b
def Ws{X:Cx}{tl}(y:PE X l tl):PI X tg l (Kz X.K tl):=by
 intro f s u H R I h;refine jE (y f s u H _ I h) λv c J=>?_;refine Í J λx j d n C=>?_;rcases C with⟨a,rfl,⟨G,m⟩,q⟩ | ⟨a,rfl,⟨G,m⟩,q⟩ | ⟨z,rfl,q⟩
 ·cases n;refine Å (d.list m) λg F p B=>?_;refine k7 p.isList ⟨c.heap.objs.size,[c.heap.objs.size],_,_,j,gL,d.kept λb o e=>aK _ e,UN a _,⟨_,bA _ gL,gL,gL⟩,λb hb=>?_,q⟩;obtain rfl:b=c.heap.objs.size:=by simpa using hb
  exact d.fpOk (aP _) (d.hok.fresh (aP _))
 ·cases n;refine Å (d.tuple m) λg F p B=>?_;refine cf (show c.heap.IsTuple a g.toArray from p) ⟨c.heap.objs.size,[c.heap.objs.size],_,_,j,gL,d.kept λb o e=>aK _ e,O7 a _,⟨_,bA _ gL,gL,gL⟩,λb hb=>?_,q⟩;obtain rfl:b=c.heap.objs.size:=by simpa using hb
  exact d.fpOk (aP _) (d.hok.fresh (aP _))
 ·refine Ã n λt v=>?_;subst v
  have fin:∀(o:Obj)(ty:String),(∀A:e6,A.handled=wy->Walks X.prog X.w A c.heap.objs.size [c.heap.objs.size] [c.heap.objs.size] z.cps.size (SignAt z) (λi h=>h.IsStrIter c.heap.objs.size ty z t i)) ->
    (∀A(i:Nat)(s:ã)Q E,s.heap.IsStrIter c.heap.objs.size ty z t i->Q (.ref c.heap.objs.size) s->å (ä X.prog X.w) A (ja (.ref c.heap.objs.size)) Q E s) ->
    (c.heap.push o).IsStrIter c.heap.objs.size ty z t 0->Br X f u tg R (.ref c.heap.objs.size) { c with heap:=c.heap.push o }:=λo ty W S st=>by
   refine⟨c.heap.objs.size,[c.heap.objs.size],_,zi z,j,gL,d.kept λb o e=>aK _ e,UM _ z t W S,⟨dA _,st⟩,λb hb=>?_,q⟩;obtain rfl:b=c.heap.objs.size:=by simpa using hb
   exact d.fpOk (aP _) (d.hok.fresh (aP _))
  cases r:z.cps.all (·<128)
  ·exact wpAny_pyIter_wide r (fin _ "str_iterator" (λA k=>Walks.strWide k _ z t) (λ_ _ _ _ _ st h=>wpAny_pyIter_striter_wide st h) ⟨_,bA _ gL,gL,gL⟩)
  ·exact wpAny_pyIter_ascii r (fin _ "str_ascii_iterator" (λA k=>Walks.strAscii k _ z t) (λ_ _ _ _ _ st h=>wpAny_pyIter_striter_ascii st h) ⟨_,bA _ gL,gL,gL⟩)
structure BP where
 cl:List (â×à)
 C:à
 s3:ã
 H3:Hp
 ex:List à
 pn:List (à×Obj)
noncomputable def blk(X:Cx)(scope:Scope)(N':List â)(b:BP):Cx where
 prog:=X.prog
 w:=X.w
 K:=X.K
 mg:=X.mg
 base:=X.base
 A:=X.A
 N:=N'
 s₀:=b.s3
 H₀:=b.H3
 env:=compEnvC scope b.cl b.C X.env
 outer:=X.stack
 stack:=X.stack
 ex:=b.ex
 fn:=λx=>scope.names.lookup x==wz .cell
 calm:=X.calm
 pn:=b.pn
 xe:=λ_ _=>False
theorem zQ{env:Env}:∀(f:List (â×m8))(b:List (â×à)),(∀x∈f,x.2=.free->∃c,env.cells.lookup x.1=wz c) ->
 (∀n c,b.lookup n=wz c->env.cells.lookup n=wz c) ->
 ∃cl,(jt f b (λx o=>match x with | (name,kind)=>if kind==.free then do let a <- cellOf env name;pure (h8 ((name,a)::o))else pure (h8 o)):Sem (List (â×à)))=pure cl /\
  (∀n c,cl.lookup n=wz c->env.cells.lookup n=wz c)/\(∀n,((∃c,b.lookup n=wz c)\/(n,g6)∈f)->∃c,cl.lookup n=wz c)
|[],b,_,ha=>⟨b,gL,ha,λn h=>h.elim id λz=>b9 z gC⟩
| (n,k)::r,b,h,ha=>by
 by_cases j:k=.free
 ·subst j;obtain⟨c,p⟩:=h (n,.free) (aM ..) gL
  obtain⟨cl,e,g,i⟩:=zQ r ((n,c)::b) (λx l=>h x (aE _ l)) (λm d hm=>by
   grind)
  refine⟨cl,?_,g,λm hm=>i m ?_⟩
  ·rw[G2];have s:cellOf env n=pure c:=by unfold cellOf;rw[p]
   grind
  grind
 ·obtain⟨cl,e,g,i⟩:=zQ r b (λx l=>h x (aE _ l)) ha;grind
def zO{env:Env}{a:Scope}(h:∀x∈a.names,x.2=.free->∃c,env.cells.lookup x.1=wz c) :
  ∃cl,closureFor a env=pure cl/\(∀n c,cl.lookup n=wz c->env.cells.lookup n=wz c)/\∀n,(n,g6)∈a.names->∃c,cl.lookup n=wz c:=by
 refine Å (zQ a.names [] h (λn c z=>by simp at z)) λcl e b d=>?_;refine⟨cl,?_,b,λn z=>d n (.inr z)⟩;refine Eq.trans ?_ (d8 (λm=>m >>= λr=>(pure r:Sem (List (â×à)))) e)
 rfl
theorem uP{env:Env}{k}:∀{a:List (â×m8)},
 (a.map λ(n,k)=>if(k==g6&&env.scope.kind==.function&&env.kindOf n==wz .cell)then(n,e4)else(n,k)).lookup x=wz k ->
 ∃b,(x,b)∈a/\(b=k\/(b=.free/\k=.cell))
|[],h=>by simp at h
| (n,j)::r,h=>by
 rw[aX,cT]at h;by_cases c:(j==g6&&env.scope.kind==.function&&env.kindOf n==wz .cell)=wx
 ·rw[b7 c]at h
  cases hb:x==n with
  |true=>
   grind
  |false=>
   rw[hb]at h;obtain⟨b,d,e⟩:=uP h;grind
 ·rw[a8 c]at h
  cases hb:x==n with
  |true=>
   grind
  |false=>
   rw[hb]at h;obtain⟨b,d,e⟩:=uP h;grind
theorem AM{env:Env}:∀{a:List (â×m8)},a.lookup x=wz .free ->
 (a.map λ(n,k)=>if(k==g6&&env.scope.kind==.function&&env.kindOf n==wz .cell)then(n,e4)else(n,k)).lookup x=wz .cell \/
 (a.map λ(n,k)=>if(k==g6&&env.scope.kind==.function&&env.kindOf n==wz .cell)then(n,e4)else(n,k)).lookup x=wz .free
|[],h=>by simp at h
| (n,j)::r,h=>by
 rw[cT]at h;rw[aX,cT]
 cases hb:x==n with
 |true=>
  lia
 |false=>
  rw[hb]at h;have c:=AM (env:=env) h;lia
noncomputable def wF(a outer:List (â×m8))(b:List â):List â->List (Option Nat)->Bool
|[],[]=>wx
|x::r,wy::f=>wF a outer b r f
|x::r,wz j::f=>(a.lookup x==wz .free)&&(b[j]?==wz x)&&(outer.lookup x==wz .cell)&&wF a outer b r f
|_,_=>ww
theorem B9{a outer:List (â×m8)}:∀{N':List â}{fr:List (Option Nat)},wF a outer Nx N' fr=wx ->
 N'.length=fr.length/\∀(i:Nat)(x:â)(j:Nat),N'[i]?=wz x->fr[i]?=wz (wz j)->a.lookup x=wz .free/\Nx[j]?=wz x/\outer.lookup x=wz .cell
|[],[],_=>⟨gL,λi x j h=>by simp at h⟩
|x::r,wy::f,h=>by
 obtain⟨d,e⟩:=B9 (fr:=f) h;refine⟨by simp[d],λi y j c b=>?_⟩
 cases i with
 |zero=>simp at b
 |succ i=>exact e i y j (by simpa using c) (by simpa using b)
|x::r,wz k::f,h=>by
 replace h:((a.lookup x==wz .free)&&(Nx[k]?==wz x)&&(outer.lookup x==wz .cell)&&wF a outer Nx r f)=true:=h;simp only[dH,dw]at h;obtain⟨⟨⟨g,a2⟩,l⟩,h⟩:=h;obtain⟨d,e⟩:=B9 (N':=r) (fr:=f) h;refine⟨by simp[d],λi y j c b=>?_⟩
 cases i with
 |zero=>
  simp at c b;subst c;subst b;exact⟨g,a2,l⟩
 |succ i=>exact e i y j (by simpa using c) (by simpa using b)
|[],_::_,h=>(bT h).elim
|_::_,[],h=>(bT h).elim
noncomputable def A4(a:List (Option Nat))(b:St):St:=a.map λo=>o.bind λj=>(b[j]?).join
def rG.but{h}{a:à}(ok:rG P w H h)(n:H a=wy)(sb:fX a h h'):rG P w H h':=λb ob e=>by
 refine(ok b ob e).stay (λc u hc q=>(sb.2 c ?_).trans q) (λ_ q=>q) λ_ _ q=>q;lia
def UA(X:Cx)(b:List æ)(e:TT):Prop:=
 ∀a s d H Q,dL X a d H s->e d H Q ->
  å (ä X.prog X.w) X.A (jt b wx λc r=>if r=wx then do let ok <- isTrue c X.env (è c X.env);pure (h8 ok)else pure (h8 r)) (TP X a d Q) X.xe s
def aCy:TT:=λ_ H Q=>Q wx H
def aD5:UA X [] aCy:=λ_ _ _ H _ I h=>wpAny_tests_nil ⟨H,I,h⟩
def aD4(h:PT X c tt):UA X [c] tt:=λa s b H Q I q=>wpAny_tests_one (h a s b H Q I q)
def hG(q:List (Option Nat))(t:TI)(g:BP->TG)(s:BP->TT)(r:BP->TE):TE:=λp H Q=>t p H λJ k=>∀h a,k a=wy->∃W:Nat->Nat->St->Hp->Prop,
 (∃m,W 0 m (A4 q p) (eS k a (.lst [])))/\∀i m f d,W i m f d ->
  (J.stop i d/\Q (.ref a) d)\/(J.go i d/\∀x l,J.yld i d x l->g h x f l λc H3=>s h c H3 λb n=>
   if b=wx then r h c n λy o=>∃j,o a=wz (.lst j)/\j.length<bN/\∃e,e<m/\W (i+1) e c (eS o a (.lst (j++[y])))
   else∃e,e<m/\W (i+1) e c n)
theorem vA:∀{a:List (â×m8)},a.filter (λy=>y.2==e4)=[]->∀n b h,x9 n a b=b/\dm h a=h
|[],_,_,_,_=>⟨gL,gL⟩
| (x,k)::r,e,n,b,h=>by
 rw[fQ]at e
 cases c:(k==e4)with
 |true=>lia
 |false=>
  rw[c,a8 bT]at e;unfold x9 dm;rw[c,a8 bT,a8 bT];exact vA e n b h
theorem CK{z:â}:∀{a:List (â×m8)},a.filter (λy=>y.2==e4)=[(z,.cell)]->∀n b h,x9 n a b=(z,n)::b/\dm h a=h.push { cls:=.type "cell",data:=.cell wy }
|[],e,_,_,_=>by cases e
| (x,k)::r,e,n,b,h=>by
 rw[fQ]at e
 cases c:(k==e4)with
 |true=>
  rw[c,b7 rfl]at e;injection e with d f
  injection d with d _
  subst d;unfold x9 dm;rw[c,b7 gL,b7 rfl];exact vA f (n+1) ((x,n)::b) _
 |false=>
  rw[c,a8 bT]at e;unfold x9 dm;rw[c,a8 bT,a8 bT];exact CK e n b h
def xP(a:List (â×m8)):Prop:=a.filter (λy=>y.2==e4)=[]\/∃z,a.filter (λy=>y.2==e4)=[(z,.cell)]/\a.lookup z=wz .cell
structure aWw(names:List (â×m8))(cl js:List (â×à))(h:ç)(C:à):Prop where
 get:∀x c,js.lookup x=wz c->(C<c/\(x,e4)∈names/\h.IsCell c wy)\/(cl.lookup x=wz c/\(x,e4)∉names)
 old:∀x c,names.lookup x=wz .free->cl.lookup x=wz c->js.lookup x=wz c
 has:∀x,(x,e4)∈names->∃c,js.lookup x=wz c
 keep:∀x c,cl.lookup x=wz c->∃c',js.lookup x=wz c'
 inj:∀x y c,js.lookup x=wz c->js.lookup y=wz c->C<c->x=y
def Zi{E:á->ã->Prop}{s:ã}{d:Scope}{globals:à}{a:List (â×à)}{Q:Env->ã->Prop}(i:xP d.names)(j:∀x c,a.lookup x=wz c->c<s.heap.objs.size)
  (v:∀q k,q.Ns s.heap.objs.size (λ_=>wy)->(∀b o,s.heap.get? b=wz o->q.get? b=wz o)->aWw d.names a k q s.heap.objs.size->Q (newEnv d s.heap.objs.size globals k qual wy .none (wz outer) o6) { s with heap:=q }) :
  å M A (ey d globals a [] qual wy .none (wz outer)) Q E s:=by
 simp only[ey,UG,x6];refine aG (wpAny_alloc ?_);refine aG (wpAny_layCells _ (λname kind r=>by rfl) _ _ _ _ ?_);have mem:∀x,(x,e4)∈d.names->(x,e4)∈d.names.filter (λy=>y.2==e4):=λx f=>cW.mpr ⟨f,gL⟩;rcases i with i | ⟨z,i,m⟩
 ·rw[(vA i _ _ s.heap).1,(vA i 0 [] _).2]
  have no:∀x,(x,e4)∉d.names:=λx f=>by
   grind
  exact aG (bB (bB (v _ _ (aCb.new s.heap (.type "dict")) (λb o e=>aK _ e) ⟨λx c h=>.inr ⟨h,no x⟩,λx c _ h=>h,λx h=>b9 h (no x),λx c h=>⟨c,h⟩,λx y c h _ l=>b9 (j x c h) (wU l)⟩)))
 ·rw[(CK i _ _ s.heap).1,(CK i 0 [] _).2,show({ s with heap:=s.heap.push { cls:=.type "dict",data:=.dict #[] } }:ã).heap.objs.size=s.heap.objs.size+1 from fL ..]
  have xo:∀x,(x,e4)∈d.names->x=z:=λx f=>by
   grind
  have u:∀x c,((z,s.heap.objs.size+1)::a).lookup x=wz c->(x=z/\c=s.heap.objs.size+1)\/(x≠z/\a.lookup x=wz c):=λx c h=>by
   grind
  have p:∀x c,x≠z->a.lookup x=wz c->((z,s.heap.objs.size+1)::a).lookup x=wz c:=λx c f h=>by
   grind
  have g:((s.heap.push { cls:=.type "dict",data:=.dict #[] }).push { cls:=.type "cell",data:=.cell wy }).get? (s.heap.objs.size+1)=wz { cls:=.type "cell",data:=.cell wy }:=by
   have:=bA (s.heap.push { cls:=.type "dict",data:=.dict #[] }) (o:={ cls:=.type "cell",data:=.cell wy }) gL
   rwa [fL]at this
  refine aG (bB (bB (v _ _ ((aCb.new s.heap (.type "dict")).keeps λb o e=>aK _ e) (λb o e=>aK _ (aK _ e)) ⟨λx c h=>?_,λx c f h=>p x c (λe=>by lia) h,λx f=>⟨s.heap.objs.size+1,by grind⟩,λx c h=>?_,λx y c G H l=>?_⟩)))
  ·rcases u x c h with⟨rfl,rfl⟩ | ⟨n,h⟩
   ·exact .inl ⟨nN _,i3 m,_,g,gL⟩
   grind
  ·grind
  grind
section
variable{X:Cx}
def V0{R:Result->ã->Prop}{iter}(I:Nat->ã->Prop)
  (turn:∀n s,I n s->å (ä prog w) A (jb it) (λr a=>match r with
   |none=>R (.ok .next) a
   |some v=>å (ä prog w) A (aq target it v) (λ_ q=>å (ä prog w) A (ir target env v) (λ_ i=>
     å (ä prog w) A (jt t wx λc r=>if r=wx then do let ok <- isTrue c env (è c env);pure (h8 ok)else pure (h8 r)) (λok b=>
      if ok=wx then å (ä prog w) A (è f env) (λx j=>å (ä prog w) A (call (.builtin "list.append") [acc,x]) (λ_ k=>∃m,m<n/\I m k) (λ_ _=>False) j) (λ_ _=>False) b
      else∃m,m<n/\I m b) (λ_ _=>False) i) (λ_ _=>False) q) (λ_ _=>False) a) (λ_ _=>False) s)
  (n:Nat) (h:I n s):x0 (ä prog w) A (.compLoop (.ListComp f [⟨target,iter,t,0⟩] scope pos) 0 it acc env) R s:=by
 refine codeAny_loop gL I (λn s y=>?_) n h;refine wpAny_noted ?_;rw[compTurn_list];have no:∀{E:á->ã->Prop}(e:á)(s:ã),False->E e s:=λ_ _ z=>z.elim;refine aG (fu (aG (eN (turn n s y) (λr a d=>?_) no)))
 cases r with
 |none=>exact bB d
 |some v=>
  refine aG (eN d (λ_ q u=>aG (eN u (λ_ i l=>aG (eN l (λok b g=>?_) no)) no)) no)
  cases ok with
  |false=>exact bB ⟨gL,g⟩
  |true=>exact aG (aG (eN g (λx j o=>aG (eN o (λ_ k p=>bB (bB ⟨gL,p⟩)) no)) no))
variable{f iter F:æ}{t:List æ}{scope:Scope}{pos:Pos}{B:List â}{G:List (Option Nat)}{O:TI}{g:BP->TG}{M:BP->TT}{L:BP->TE}
def NP{H2:Hp}{s2:ã}{it:à}{tn:Nat->ç->Prop}{J:It}{Q:VK}{RR:á->à->Result->ã->Prop}{cl:List (â×à)}{E:á->ã->Prop}
  (U:X.calm=wx) (kx:scope.kind=.function) (hz:xP scope.names) (mj:wF scope.names X.env.scope.names X.N B G=wx)
  (s:∀n c,cl.lookup n=wz c->X.env.cells.lookup n=wz c) (kt:∀n,(n,g6)∈scope.names->∃c,cl.lookup n=wz c)
  (hY:∀b,PG (blk X scope B b) F (g b)/\UA (blk X scope B b) t (M b)/\PE (blk X scope B b) f (L b))
  (I2:dL X pins σ H2 s2) (T:OJ X.prog X.w X.K F J fp it tn) (jw:tn 0 s2.heap) (f2:∀b∈fp,DR X pins H2 b)
  (q:∀bp I,H2 I=wy->∃W:Nat->Nat->St->Hp->Prop,(∃m,W 0 m (A4 G σ) (eS H2 I (.lst [])))/\∀i m S R,W i m S R ->
   (J.stop i R/\Q (.ref I) R)\/(J.go i R/\∀x H2,J.yld i R x H2->g bp x S H2 λlr H3=>M bp lr H3 λb H4=>
    if b=wx then L bp lr H4 λy H5=>∃ys,H5 I=wz (.lst ys)/\ys.length<bN/\∃m',m'<m/\W (i+1) m' lr (eS H5 I (.lst (ys++[y])))
    else∃m',m'<m/\W (i+1) m' lr H4))
  (qh:∀I C s' HY m,dL X pins σ HY s'->DR X pins HY C->s'.heap.Ns C m->Q (.ref I) HY->RR (.ref I) C (.ok .next) s') :
  å (ä X.prog X.w) X.A (newList []) (λI nr=>å (ä X.prog X.w) X.A (ey scope X.env.globals cl [] X.env.qual wy .none (wz X.env)) (λkm nt=>
   x0 (ä X.prog X.w) X.A (.compStart (.ListComp f [⟨F,iter,t,0⟩] scope pos) 0 (.ref it) I { km with scope:=relabel scope X.env }) (RR I km.locals) nt) E nr) E s2:=by
 refine Ä (B9 mj) λqu qr=>?_;have md:=I2.hok.fresh (aP _);refine iV ?_ (by show 0<=bN;exact dA _)
 generalize nc:({ s2 with heap:=s2.heap.push { cls:=.type "list",dict:=wy,data:=.seq ([]:List á).toArray } }:ã)=s3
 have a:dL X pins σ (eS H2 s2.heap.objs.size (.lst [])) s3:=by
  rw[<- nc];exact I2.laid (λb u e=>aK _ e) (aP _) ⟨dA _,[],0,.nil,bA _ gL⟩
 have mi:∀b∈fp,b<s3.heap.objs.size:=λb hb=>by
  refine Â (T.obj 0 _ jw b hb) λo e _=>?_;rw[<- nc];exact bC (aK _ e)
 have pj:tn 0 s3.heap:=T.keep 0 _ _ jw λb _ o e=>by rw[<- nc];exact aK _ e
 have Z:∀b∈fp,DR X pins (eS H2 s2.heap.objs.size (.lst [])) b:=λb hb=>⟨by
  refine Â (T.obj 0 _ jw b hb) λo e _=>?_;rw[bZ (cU (bC e))];exact(f2 b hb).1,(f2 b hb).2⟩
 refine Zi hz (λx c e=>by refine Î (a.cell x c (s x c e)) λv o ho _=>?_;exact bC ho) λlf H mu keep P=>?_
 generalize qg:eS H2 s2.heap.objs.size (.lst [])=H3 at *
 generalize vg:s2.heap.objs.size=ac at *
 generalize hC:s3.heap.objs.size=C at *
 obtain⟨W,⟨m0,w0⟩,turn⟩:=q ⟨H,C,s3,H3,fp,X.pn++pins⟩ ac md;rw[qg]at w0
 have Y:∀x c,X.env.cells.lookup x=wz c->c<C:=λx c e=>by
  refine Î (a.cell x c e) λv o ho _=>?_;rw[<- hC];exact bC ho
 have kq:=λb hb=>by exact cU (mi b hb)
 have oa:X.env.locals<C:=by rw[<- hC];exact a.lt
 have nh:∀b∈tT X.stack,b≠C/\H3 b=none:=λb hb=>⟨by
  rintro rfl;rcases aQ.mp (a.stkSub b hb)with z | z
  ·rw[z]at oa;exact b9 oa (fF _)
  ·exact a.nofs (by rw[hC];exact aP _) z,a.stkFree b hb⟩
 -- the block's context
 have uq:(blk X scope B ⟨H,C,s3,H3,fp,X.pn++pins⟩).Ok:=by
  refine⟨a.ok.mod,kx,a.ok.glob,a.ok.blt,mI hC,λx y c h1 h2=>by
   rcases P.get x c h1 with⟨l1,_⟩ | ⟨g1,_⟩<;>rcases P.get y c h2 with⟨l2,_⟩ | ⟨g2,_⟩
   ·exact P.inj x y c h1 h2 l1
   ·exact b9 (Y y _ (s y _ g2)) (wU l1)
   ·exact b9 (Y x _ (s x _ g1)) (wU l2)
   ·exact a.ok.inj x y c (s x c g1) (s y c g2),λx hx=>?_,λx c hf h=>by
   rcases P.get x c h with⟨l,_⟩ | ⟨_,n⟩
   ·exact bK (mI hC) (iQ l)
   ·exact b9 (i3 (beq_iff_eq.mp hf)) n,λ_=>a.ok.hd U,a.ok.frames,.inl gL,
   λb hb=>⟨kq b hb,λx c h=>by
    rcases P.get x c h with⟨l,_⟩ | ⟨h,_⟩
    ·exact iP (DY (mi b hb) l)
    ·exact(Z b hb).2.2.2.2.1 x c (s x c h)⟩,λb o e=>a.bs b o e,?_,λb o e hb=>?_,λb hb hs=>?_,a.stack,λb hb=>(nh b hb).2,a.env0.tab⟩
  ·have back:∀k,(relabel scope X.env).names.lookup x=wz k->(k=.cell\/k=.free)->∃c,(H).lookup x=wz c:=λk h hk=>by
    refine Â (uP h) λk0 h1 h2=>?_;rcases(show k0=.cell\/k0=.free from h2.elim (λe=>by rw[e];exact hk) λe=>.inr e.1)with rfl | rfl
    ·exact P.has x h1
    ·refine Ã (kt x h1) λc hc=>?_;exact P.keep x c hc
   rcases hx with hx | hx
   ·exact back _ hx (.inl gL)
   ·exact back _ hx (.inr gL)
  ·exact bK a.ok.bsz (bK a.sz (aP _))
  ·rcases(Z b hb).2.2.2.1 with z | z
   ·exact a.ok.noex b o e z
   ·exact b9 (cA (bC (a.ok.bs b o e).1) z) (fF _)
  ·rcases aQ.mp (a.stkSub b hs)with z | z
   ·exact(Z b hb).2.1 z
   ·exact(Z b hb).2.2.1 z
 have IY:dL (blk X scope B ⟨H,C,s3,H3,fp,X.pn++pins⟩) [] (A4 G σ) H3 { s3 with heap:=lf }:=by
  refine⟨uq,gL,a.bare,Un.kept keep,⟨_,mu,λi x v h1 h2 _=>?_⟩,λx c e=>?_,(a.hok.fresh (mI hC)),λx c e=>(by
   rcases P.get x c e with⟨l,_⟩ | ⟨e,_⟩
   ·exact a.hok.fresh (by rw[hC];exact iQ l)
   ·exact a.freeC x c (s x c e)),λp hp=>?_,a.hok.kept keep,?_⟩
  ·have e:∃j,G[i]?=wz (wz j)/\σ[j]?=wz (wz v):=by
    unfold A4 at h2;rw[aO]at h2
    cases hf:G[i]? with
    |none=>rw[hf]at h2;cases h2
    |some o=>
     rw[hf]at h2
     cases o with
     |none=>cases h2
     |some j=>
      refine⟨j,gL,?_⟩;have iu:(σ[j]?).join=wz v:=by simpa using h2
      cases hj:σ[j]? with
      |none=>rw[hj]at iu;cases iu
      |some o=>rw[hj]at iu;rw[show o=wz v from iu]
   refine Â e λj e1 e2=>?_;refine ñ (qr i x j h1 e1) λa1 a2 a3=>?_;refine Â a.loc λm hn hl=>?_;refine Â (hl j x v a2 e2 (.inr (.inl a3))) λu r l=>?_;refine⟨u,r,.inr ⟨AM a1,?_⟩⟩;rcases l with⟨k,_⟩ | ⟨_,c,hc,o,ho,hd⟩
   ·have k':X.env.scope.names.lookup x=wz .local:=k;rw[a3]at k';cases k'
   ·refine Ã (kt x (i3 a1)) λc' aj=>?_;have z:=s x c' aj;rw[hc]at z;cases z;exact⟨c,P.old x c a1 aj,o,keep c o ho,hd⟩
  ·rcases P.get x c e with⟨_,_,sv⟩ | ⟨e,_⟩
   ·exact⟨wy,sv⟩
   ·refine Î (a.cell x c (s x c e)) λv o ho hd=>?_;exact⟨v,o,keep c o ho,hd⟩
  ·refine Á (a.pin p (by have la:p∈(X.pn++pins)++[]:=hp;simpa using la)) λe n ne nf d=>?_;refine⟨keep _ _ e,n,?_,λz=>?_,d⟩
   ·have:=bC e;rw[hC]at this;exact cU this
   ·rcases aQ.mp (a.stkSub p.1 z)with z | z
    ·exact ne z
    ·exact nf z
  ·unfold A4;rw[aC];exact qu.symm
 have je:∀{R:Hp},(∀b∈fp,R b=wy)->∀b∈fp,DR (blk X scope B ⟨H,C,s3,H3,fp,X.pn++pins⟩) [] R b:=λ{R} hn b hb=>
  ⟨hn b hb,kq b hb,λz=>by
   rcases aQ.mp (a.stkSub b z)with z | z
   ·exact(Z b hb).2.1 z
   ·exact(Z b hb).2.2.1 z,  .inl hb,λx c e=>(by
   rcases P.get x c e with⟨l,_⟩ | ⟨e,_⟩
   ·exact iP (DY (mi b hb) l)
   ·exact(Z b hb).2.2.2.2.1 x c (s x c e)),λp hp=>(Z b hb).2.2.2.2.2 p (by have la:p∈(X.pn++pins)++[]:=hp;simpa using la)⟩
 refine ñ (hY ⟨H,C,s3,H3,fp,X.pn++pins⟩) λhg ht he=>?_
 have gz:x0 (ä X.prog X.w) X.A (.compLoop (.ListComp f [⟨F,iter,t,0⟩] scope pos) 0 (.ref it) (.ref ac) (compEnvC scope H C X.env)) (RR (.ref ac) C) { s3 with heap:=lf }:=by
  refine V0 (λn s'=>∃i S R,dL (blk X scope B ⟨H,C,s3,H3,fp,X.pn++pins⟩) [] S R s'/\tn i s'.heap/\(∀b∈fp,R b=wy)/\W i n S R) ?_ m0
   ⟨0,A4 G σ,H3,IY,T.keep 0 _ _ pj λb _ o e=>keep b o e,λb hb=>(Z b hb).1,w0⟩
  rintro n s4 ⟨i,lu,H4,I4,pq,nz,w4⟩;rcases turn i n lu H4 w4 with⟨stop,qn⟩ | ⟨go,step⟩
  ·refine jE (T.done (blk X scope B ⟨H,C,s3,H3,fp,X.pn++pins⟩) gL gL gL U i [] s4 lu H4 _ I4 (je nz) pq stop) λr s5 zq=>?_;refine Ä zq λhr I5=>?_;subst hr;refine Â I5.loc λm hn _=>?_;exact qh ac C s5 H4 m (a.call' I5.os I5.base I5.hok I5.bare λb hb=>⟨(Z b hb).2.2.2.1,(Z b hb).2.1,(Z b hb).2.2.2.2.1,(Z b hb).2.2.2.2.2⟩) (a.fpOk (mI hC) I5.free) hn qn
  ·refine jE (T.item (blk X scope B ⟨H,C,s3,H3,fp,X.pn++pins⟩) gL gL gL U i [] s4 lu H4 (λ_ _=>False) I4 (je nz) pq go) λr s5 zq=>?_;refine Â zq λu hr h5=>?_;subst hr;refine jE h5 λ_ s6 zq=>?_;refine Õ zq λx H6 I6 r6 y6 nq qf=>?_;refine jE (hg _ s6 lu H6 x u _ (I6.pinned (je qf) (T.obj _ _ nq)) r6 (step x H6 y6)) λ_ s7 zq=>?_;refine Î zq λnu H7 I7 q7=>?_;refine jE (ht _ s7 nu H7 _ I7 q7) λok s8 zq=>?_;refine Â zq λH8 I8 q8=>?_
   have jr:∀{s9:ã}{lx:St}{H9:Hp}{m':Nat},dL (blk X scope B ⟨H,C,s3,H3,fp,X.pn++pins⟩) ([]++FG fp s6.heap) lx H9 s9->m'<n->W (i+1) m' lx H9 ->
     ∃m,m<n/\∃i S R,dL (blk X scope B ⟨H,C,s3,H3,fp,X.pn++pins⟩) [] S R s9/\tn i s9.heap/\(∀b∈fp,R b=wy)/\W i m S R:=λ{s9 lx H9 m'} I9 hm w9=>by
    refine⟨m',hm,i+1,lx,H9,I9.unpinned,T.keep _ _ _ nq λb hb o e=>(I9.pin (b,o) (cG _ (cG _ (uT hb e)))).1,λb hb=>?_,w9⟩;refine Â (T.obj _ _ nq b hb) λo e d=>?_;exact(I9.pin (b,o) (cG _ (cG _ (uT hb e)))).2.1
   cases ok with
   |false=>
    obtain⟨m',hm,w8⟩:=q8;exact jr I8 hm w8
   |true=>
    refine jE (he _ s8 nu H8 _ I8 q8) λy s9 zq=>?_;refine ö zq λyv H9 I9 r9 ys ud hz m' hm w9=>?_;refine jE (nY _ s9 nu H9 (.ref ac) [yv] (.ref ac) [y] (λ_ R=>R=eS H9 ac (.lst (ys++[yv]))) I9 gL (.cons r9 .nil) ⟨ac,ys,yv,gL,gL,ud,hz,gL⟩) λ_ wf zq=>?_;refine Í zq λ_ ux pz _ qd=>?_;subst qd;exact jr pz hm w9
 exact codeAny_compStart_list gz (T.self _ 0 _ _ _ (T.keep 0 _ _ pj λb _ o e=>keep b o e) gz)
def Pm(d:X.calm=wx)(a:scope.kind=.function)(hz:xP scope.names)(u:wF scope.names X.env.scope.names X.N B G=wx)
  (j:∀y∈scope.names,y.2=.free->X.env.scope.names.lookup y.1=wz .cell) (c:∀x∈scope.names,x.2=.local->scope.names.lookup x.1=wz .local) (U:PI X F iter O)
  (S:∀b,PG (blk X scope B b) F (g b)/\UA (blk X scope B b) t (M b)/\PE (blk X scope B b) f (L b))
  (Z:autoParam (∀x,j1 iter X.env x=pure x) zzx._auto_1):PE X (.ListComp f [⟨F,iter,t,0⟩] scope pos) (hG G O g M L):=by
 intro p s σ H Q I h;refine Å (zO λy hy W=>I.ok.has y.1 (.inl (j y hy W))) λcl i l n=>?_;rw[eval_ListComp];refine fq gL Z i a c (jE (U p s σ H _ I h) λv s1 P=>jE P λot s2 R=>?_);refine ø R λit fp tn J H2 v E T w K q=>?_;subst v;refine NP d a hz u l n S E T w K q λr C s' z m A k Y q'=>?_;exact⟨m,Y,λh' sb=>⟨.ref r,z,A.turned (λb o hb e=>(sb.2 b hb).trans e) k.1 k.2.1 k.2.2.2.1 k.2.2.2.2.1 k.2.2.2.2.2,gL,q'⟩⟩
def YY{i:Nat}{x:â}{Z j:Pos}(hN:X.N.Nodup)(S:X.N[i]?=wz x)(hx:WU X.env.scope x)(l:X.calm=wx)(c:scope.kind=.function)(hz:xP scope.names)(R:wF scope.names X.env.scope.names X.N B G=wx)
  (p:∀y∈scope.names,y.2=.free->X.env.scope.names.lookup y.1=wz .cell) (d:∀x∈scope.names,x.2=.local->scope.names.lookup x.1=wz .local) (hi:PI X F iter O)
  (hY:∀b,PG (blk X scope B b) F (g b)/\UA (blk X scope B b) t (M b)/\PE (blk X scope B b) f (L b))
  (U:mH (.ListComp f [⟨F,iter,t,0⟩] scope pos) (wz (.Name x Z)) j.line X.env=pure wx)
  (hs:autoParam (∀x,j1 iter X.env x=pure x) zzx._auto_1) (hf:autoParam (X.fn x=wx\/X.env.scope.names.lookup x=wz .local) zzn._auto_1) :
  PS X (.Assign [.Name x Z] (.ListComp f [⟨F,iter,t,0⟩] scope pos) j) (xT (hG G O g M L) (nD i)):=by
 intro w s σ H D I h;refine Å (zO λy hy hk=>I.ok.has y.1 (.inl (p y hy hk))) λcl n r u=>?_;rw[exec_Assign_Name_used _ _ _ _ U];refine aG (fu (aG ?_))
 refine aG (eN (fq gL hs n c d
  (jE (hi w s σ H _ I h) λv s1 h1=>jE h1 λot s2 h2=>?_)) (λ_ s' hq=>bB (bB hq)) λ_ _ e=>e)
 refine ø h2 λit fp tn J H2 V I2 T Y f2 q=>?_;subst V;refine NP (Q:=λx H1=>nD i x σ H1 D.nx) l c hz R r u hY I2 T Y f2 q λE C s' HY m I' k hn q'=>?_;refine jz (IA I' hN S hx (v:=.ref E) gL (λwg A P=>?_) hf);refine Â P λa sb ha=>?_
 have K:C≠a:=by
  rcases ha with z | z
  ·rw[z];exact k.2.1
  ·exactλe=>k.2.2.2.2.1 x a z e.symm
 exact⟨m,hn.sameBut sb K,λh' W=>⟨_,HY,A.turned (λb o hb e=>(W.2 b hb).trans e) k.1 k.2.1 k.2.2.2.1 k.2.2.2.2.1 k.2.2.2.2.2,q'⟩⟩
end
section
variable{prog:cO}{w:f8}{A:e6}{E:á->ã->Prop}{h:ç}{g:Array GenState}{d:Drawn}{t:Nat}{os:OsState}{a C:à}{f:Obj}{b:Option Obj}{K:aH}
structure GQ(K:aH)(C:à):Prop where
 ga:eK K (.ref C) "__getattribute__"=wz (wz (.builtin "BaseException.__getattribute__"))
 gt:eK K (.ref C) "__getattr__"=wz wy
 cl:eK K (.ref C) "__class__"=wz (wz (.builtin "object.__class__"))
 ob:dS K C (.type "object")=wz wx
 be:dS K C (.type "BaseException")=wz wx
def sN(K:aH)(C:à):Prop:=GQ K C/\∀T∈["int","str","list","tuple","bool"],eY K (.ref C) (.type T)=wz ww
def V2{Q:Unit->ã->Prop}(X:K.In h)(c:GQ K C)(I:mU h a f C b)(j:Q () ⟨h,g,d,t,os⟩):å M A (checkBuiltinCall "BaseException.__getattribute__" ⟨[.ref a,nameV],[]⟩) Q E ⟨h,g,d,t,os⟩:=by
 have k:builtinKind "BaseException.__getattribute__"=wz .slot:=rfl
 have e:splitId "BaseException.__getattribute__"=wz ("BaseException","__getattribute__"):=rfl
 have i:=PySem.W.looks_mroIn (M:=M) X c.be;refine aG ?_;refine aG ((I.type (M:=M)).at (i.at ?_))
 repeat (first | exact j | wp_step)
def LR{Q:Fin->ã->Prop}(X:K.In h)(c:GQ K C)(I:mU h a f C b)(l:Q (.done (.ret (.ref C))) ⟨h,g,d,t,os⟩) :
  å (ä prog w) A (bg.«object.__getattribute__» ⟨[.ref a,.str "__class__" tk],[]⟩) Q E ⟨h,g,d,t,os⟩:=by
 have i:=F.typeOf_object_class;have j:=F.slot_gs_get.lookup;have k:=F.slot_gs_set.lookup;have e:=qK (M:=ä prog w) X c.cl
 repeat (any_goals (first | assumption | with_reducible refine(I.type (M:=ä prog w)).at ?_ | with_reducible refine e.at ?_ | wp_step))
 refine PySem.W.class_get X I c.ob ?_
 repeat (any_goals (first | assumption | wp_step))
def N7{R:Result->ã->Prop}(X:K.In h)(c:GQ K C)(I:mU h a f C b)(e:R (.ok (.ret (.ref C))) ⟨h,g,d,t,os⟩) :
  x0 (ä prog w) A (.call (.builtin "BaseException.__getattribute__") ⟨[.ref a,.str "__class__" tk],[]⟩) R ⟨h,g,d,t,os⟩:=
 codeAny_call_builtin F.excAttr_ValueError.ga.plain F.entry_bexc_ga (V2 X c I (LR X c I e))
def V1{Q:á->ã->Prop}(X:K.In h)(c:GQ K C)(I:mU h a f C b)(l:Q (.ref C) ⟨h,g,d,t,os⟩):å (ä prog w) A (getAttrBy (.ref a) (.str "__class__" tk) ww) Q E ⟨h,g,d,t,os⟩:=by
 have k:=F.excAttr_ValueError.ga.bind (.ref a);have j:(Value.builtin "BaseException.__getattribute__"==Value.builtin "object.__getattribute__")=false:=rfl
 have i:=qK (M:=ä prog w) X c.ga;have e:=qK (M:=ä prog w) X c.gt
 repeat (any_goals (first | assumption | with_reducible refine(I.type (M:=ä prog w)).at ?_ | with_reducible refine i.at ?_ | with_reducible refine e.at ?_ | wp_step))
 refine N7 X c I ?_
 repeat (any_goals (first | assumption | wp_step))
def N8{Q:Option á->ã->Prop}(X:K.In h)(c:GQ K C)(I:mU h a f C b)(e:Q (wz (.ref C)) ⟨h,g,d,t+1,os⟩):å (ä prog w) A (getAttr? (.ref a) "__class__") Q E ⟨h,g,d,t,os⟩:=by
 repeat (any_goals (first | assumption | with_reducible apply V1 X c I | wp_step))
def NS(c:GQ K C):PySem.W.KitX K (.ref a) (.ref C) (λh=>∃f b,mU h a f C b) where
 ty:=λ_ _ _ ⟨_,_,I⟩=>I.type
 it:=λ_ _ X _=>by
  refine Â (MB.mp c.ob) λcd hc _=>?_;unfold nM at hc;split at hc
  ·rename_i c' d' qb nn ho;intro A' Q' E' s' k q;exact aG (wpAny_loadPart (k _ _ (X _ _ ho)) (bB q))
  ·cases hc
 ne:=λh tp dd bt n sl X tw=>by
  refine Â (MB.mp c.ob) λcd hc _=>?_;refine aCd.mpr λq=>?_;have e:=Value.ref.inj (beq_iff_eq.mp q);subst e;unfold nM at hc;split at hc
  ·rename_i c' d' qb nn ho;cases ((X _ _ ho).symm.trans tw)
  ·cases hc
 ca:=λ{_ _ _ _ _ s} X ⟨_,_,I⟩ k=>by
  obtain⟨hh,g,d,t,os⟩:=s;exact N8 X c I k
end
structure aTe(k:Nat)(A:e6):Prop where
 dp:A.depth+3*k+5<ba
 un:A.units+16*k+200<v7
 gd:A.guards=wz []
def iF.h{k:Nat}(r:iF k A):aTe k A:=⟨r.dp,r.un,r.gd⟩
end L2
namespace TL
open L2
abbrev D:=PySem.PyData
def Xf(p:à)(h:ç):Prop:=∃(a:List á)(n:Nat),h.get? p=wz { cls:=.type "list",data:=.seq a.toArray n }/\a.length<=1000/\∀v∈a,∃i t,v=.int i t/\0<=i/\i<4096
def sQ(p C:à)(dx:Option à)(h:ç):Prop:=∃o vs,h.get? p=wz o/\o.cls=.ref C/\o.dict=dx/\o.data=.fields vs
def uL(p q:à)(h:ç):Prop:=∃a b c d e f n,h.get? p=wz { cls:=.type "list",data:=.seq [d7 q,.int a d,.int b e,.int c f].toArray n }/\0<=a/\(c=0\/c=1)
noncomputable def kD:lE->PySem.PyData
|.inl i=>.int i
|.inr x=>.str x
mutual
inductive gW(K:aH)(H:Hp):D->V->Prop
|none:gW K H .none .non
|bool (b:Bool):gW K H (.bool b) (.bl b)
|int (i:Int):gW K H (.int i) (.int i)
|str (x:â):gW K H (.str x) (.str x)
|list {p:à} {xs:List V} {ts:List D}:pE K H p xs->Reps K H ts xs->gW K H (.list ts) (.ref p)
|tuple {p:à} {xs:List V} {ts:List D}:tI K H p xs->Reps K H ts xs->gW K H (.tuple ts) (.ref p)
|wild {p:à}:H p=wz (.ext (Xf p))->gW K H (.dict []) (.ref p)
|exc {p C:à}:sN K C->H p=wz (.ext (sQ p C Option.none))->gW K H (.dict [(.int (C:Nat),.none)]) (.ref p)
|excA {p C dx:à} {n:Int}:sN K C->H p=wz (.ext (sQ p C (wz dx)))->H dx=wz (.xd [("at",.int n)])->gW K H (.dict [(.int (C:Nat),.int n)]) (.ref p)
|excD {p C dx:à} {v:V} {cs:List D}:sN K C->H p=wz (.ext (sQ p C (wz dx)))->H dx=wz (.xd [("case",v)])->gW K H (.tuple cs) v->gW K H (.dict [(.int (C:Nat),.tuple cs)]) (.ref p)
|tape {p q:à} {ns:List Int}:H p=wz (.ext (uL p q))->pE K H q (ns.map V.int)->gW K H (.dict [(.none,.list (ns.map bW))]) (.ref p)
|dct {p:à} {es:List (lE×V)} {kvs:List (D×D)}:H p=wz (.dK es)->kvs.map (·.1)=es.map (λe=>kD e.1)->Reps K H (kvs.map (·.2)) (es.map (·.2))->gW K H (.dict ((.str "{}",.list [])::kvs)) (.ref p)
|addr {p:à} (z:List D):gW K H (.dict [(.str "@",.list (.int (p:Nat)::z))]) (.ref p)
|ins {p C dx:à} {fs:List (â×V)} {ds:List D}:H p=wz (.ins C dx fs)->Reps K H ds (fs.map (·.2))->gW K H (.dict [(.str "obj",.tuple [.int (C:Nat),.list ((fs.map (·.1)).map aI),.list ds])]) (.ref p)
inductive Reps(K:aH)(H:Hp):List D->List V->Prop
|nil:Reps K H [] []
|cons {t:D} {ts:List D} {x:V} {xs:List V}:gW K H t x->Reps K H ts xs->Reps K H (t::ts) (x::xs)
end
variable{K:aH}{H G J L:Hp}
def bF.seqT{a:à}(e:bF H G)(h:tI K H a xs):tI K G a xs:=by
 rcases h with(h | ⟨o,h⟩) | h
 ·exact .inl (.inl (e _ _ h))
 ·exact .inl (.inr ⟨o,e _ _ h⟩)
 ·exact .inr h
def gW.same(e:bF H G){d:D}{v:V}(r:gW K H d v):gW K G d v:=
 gW.rec (motive_1:=λd v _=>gW K G d v) (motive_2:=λc vs _=>Reps K G c vs) .none .bool .int .str (λq _ a=>.list (L2.bF.seq e q) a) (λq _ a=>.tuple (bF.seqT e q) a) (λh=>.wild (e _ _ h)) (λx h=>.exc x (e _ _ h)) (λx h g=>.excA x (e _ _ h) (e _ _ g))
  (λx h g _ a=>.excD x (e _ _ h) (e _ _ g) a) (λh g=>.tape (e _ _ h) (L2.bF.seq e g)) (λh n _ a=>.dct (e _ _ h) n a) .addr (λh _ a=>.ins (e _ _ h) a) .nil (λ_ _ a b=>.cons a b) r
theorem Reps.same(e:bF H G){c:List D}:∀{vs:List V},Reps K H c vs->Reps K G c vs:=by
 induction c with
 |nil=>intro vs r;cases r;exact .nil
 |cons d c f=>
  intro vs r
  cases r with
  |cons a b=>exact .cons (a.same e) (f b)
theorem Reps.length{a:List D}{vs:List V}(h:Reps K H a vs):a.length=vs.length:=by
 induction a generalizing vs with
 |nil=>cases h;rfl
 |cons d a n=>cases h with|cons r t=>simp[n t]
theorem Reps.get:∀{ds vs}{i:Nat}{d},Reps K H ds vs->ds[i]?=wz d->∃v,vs[i]?=wz v/\gW K H d v
|_,_,_,_,.nil,e=>by simp at e
|_,_,0,_,.cons r _,e=>by simp at e;subst e;exact⟨_,gL,r⟩
|_,_,i+1,d,.cons _ s,e=>by
 refine Â (Reps.get s (by simpa using e)) λv a b=>?_;exact⟨v,by simpa using a,b⟩
theorem Reps.get':∀{ds vs}{i:Nat}{v},Reps K H ds vs->vs[i]?=wz v->∃d,ds[i]?=wz d/\gW K H d v:=by
 intro ds
 induction ds with
 |nil=>intro _ _ _ h e;cases h;simp at e
 |cons d a n=>
  intro _ i _ h e
  cases h with|cons r s=>
  cases i with
  |zero=>simp at e;subst e;exact⟨_,gL,r⟩
  |succ i=>obtain⟨v,a,b⟩:=n s (by simpa using e);exact⟨v,by simpa using a,b⟩
theorem Reps.append{ds es vs us}(h:Reps K H ds vs)(s:Reps K H es us):Reps K H (ds++es) (vs++us):=by
 induction ds generalizing vs with
 |nil=>cases h;exact s
 |cons d a n=>cases h with|cons r t=>exact .cons r (n t)
theorem Reps.take:∀{a:List D}{vs:List V}(n:Nat),Reps K H a vs->Reps K H (a.take n) (vs.take n)
|_,_,0,_=>.nil
|_,_,_+1,.nil=>.nil
|_,_,n+1,.cons r t=>.cons r (Reps.take n t)
theorem Reps.drop:∀{a:List D}{vs:List V}(n:Nat),Reps K H a vs->Reps K H (a.drop n) (vs.drop n)
|_,_,0,r=>r
|_,_,_+1,.nil=>.nil
|_,_,n+1,.cons _ t=>Reps.drop n t
noncomputable def ê(H:Hp)(C:List à):Hp:=λb=>if b∈C then wy else H b
def bR(e:bF H G):bF (ê H C) (ê G C):=λb o h=>by
 unfold ê at h |-
 by_cases hb:b∈C
 ·lia
 ·rw[a8 hb]at h |-;exact e b o h
def gO(h:∀p∈u9,p∈C):bF (ê H C) (ê H u9):=λb o e=>by
 unfold ê at e |-
 grind
def bX:bF (ê H C) H:=λb o e=>by
 unfold ê at e;lia
def oS{p:à}(h:H p=wy):ê (eS H p o) (p::C)=ê H C:=by
 funext b;unfold ê;by_cases hb:b=p
 ·grind
 ·rw[bZ hb];grind
def fS{p:à}(h:p∈C):ê (eS H p o) C=ê H C:=by
 funext b;unfold ê;by_cases hb:b=p
 ·lia
 ·rw[bZ hb]
def dN{p:à}(h:H p=wy):bF H (eS H p o):=λb u q=>by rw[bZ (eU q h)];exact q
def lN{p:à}(h:p∉C)(e:H p=wz o):ê H C p=wz o:=by
 unfold ê;lia
noncomputable def yw:HO->Bool
|.tup _=>wx
|.frz _ (.tup _)=>wx
|_=>ww
def BM(u:Option HO):Prop:=∃v,u=wz v/\yw v=ww
def BM.ne(h:BM u):u≠none:=λz=>by refine Â h λv e _=>?_;lia
theorem BM.lst{xs}:BM (wz (.lst xs)):=⟨_,gL,gL⟩
def jA{C:List à}{p:à}(live:∀q∈C,BM (H q))(h:H p=wy):p∉C:=λz=>(live p z).ne h
inductive Sl where
|un | val (d:D) | own (ts:List D) | dic (hs:List Int) (kvs:List (D×D))
def tX(K:aH)(B:Hp)(I:List à)(H:Hp)(C:List à)(m:List Sl)(E:L2.St):Prop:=∀(i:Nat)(d:List Int)(kvs:List (D×D)),m[i]?=wz (.dic d kvs) ->
 (∃(p:à)(a:List (lE×V)),E[i]?=wz (wz (.ref p))/\p∈C/\B p=wy/\p∉I/\H p=wz (.dK a)/\d=[]/\kvs.map (·.1)=a.map (λe=>kD e.1)/\Reps K (ê H C) (kvs.map (·.2)) (a.map (·.2))) /\
 ∀(j:Nat)(b:List Int)(c:List (D×D)),m[j]?=wz (.dic b c)->i=j
def tX.to{B g:Hp}(o:tX K B I H C m E)(c:∀(i:Nat)(a:List Int)(kvs:List (D×D)),o9[i]?=wz (.dic a kvs)->m[i]?=wz (.dic a kvs)/\v4[i]?=E[i]?)
  (M:∀(p:à)(f:List (lE×V)),p∈C->H p=wz (.dK f)->p∉I->p∈u9/\G p=H p) (z:∀(p:à)(f:List (lE×V)),p∈C->H p=wz (.dK f)->B p=wy->p∉I->g p=wy/\p∉p0') (F:bF (ê H C) (ê G u9)):tX K g p0' G u9 o9 v4:=λi a kvs h=>by
 refine Ä (c i a kvs h) λx y=>?_;obtain⟨⟨p,w,k,a2,l,a4,e,n,q,r⟩,u⟩:=o i a kvs x;refine Ä (M p _ a2 e a4) λs t=>?_;refine Ä (z p _ a2 e l a4) λc1 v=>?_;exact⟨⟨p,w,y.trans k,s,c1,v,t.trans e,n,q,r.same F⟩,λj b d A=>u j b d (c j b d A).1⟩
def LQ{m:List Sl}{i j:Nat}(c:∀a kvs,s≠.dic a kvs)(h:(m.set i s)[j]?=wz (.dic a kvs)):i≠j/\m[j]?=wz (.dic a kvs):=by
 by_cases e:i=j
 ·subst e;have b:i<m.length:=by simpa using(aJ.mp h).1
  rw[bO b]at h;exact b9 (c7 h) (c a kvs)
 ·rw[bG e]at h;exact⟨e,h⟩
def tX.setS{m:List Sl}{E:L2.St}(o:tX K B I H C m E){i:Nat}(d:∀c kvs,s≠.dic c kvs):tX K B I H C (m.set i s) (E.set i v):=
 o.to (λj c kvs h=>by obtain⟨e,h'⟩:=LQ d h;exact ⟨h',bG e⟩) (λp f a b _=>⟨a,gL⟩) (λp f _ _ a b=>⟨a,b⟩) (L2.bF.refl _)
def tX.setT{m:List Sl}(o:tX K B I H C m E){i:Nat}(d:∀c kvs,s≠.dic c kvs):tX K B I H C (m.set i s) E:=
 o.to (λj c kvs h=>⟨(LQ d h).2,gL⟩) (λp e a b _=>⟨a,gL⟩) (λp e _ _ a b=>⟨a,b⟩) (L2.bF.refl _)
def tX.grow(o:tX K B I H C m E)(e:bF H G):tX K B I G C m E:=
 o.to (λj d kvs h=>⟨h,gL⟩) (λp c a b _=>⟨a,(e p _ b).trans b.symm⟩) (λp c _ _ a b=>⟨a,b⟩) (bR e)
structure Ok(K:aH)(B:Hp)(I:List à)(H:Hp)(C:List à)(m:List Sl)(E:L2.St):Prop where
 base:bF B H
 sub:∀p∈I,p∈C
 live:∀p∈C,BM (H p)
 len:m.length=E.length
 val:∀(i:Nat)(d:D),m[i]?=wz (.val d)->∃v,E[i]?=wz (wz v)/\gW K (ê H C) d v
 own:∀(i:Nat)(ts:List D),m[i]?=wz (.own ts)->∃p xs,E[i]?=wz (wz (.ref p))/\p∈C/\B p=wy/\p∉I/\H p=wz (.lst xs)/\Reps K (ê H C) ts xs
 dis:∀(i j:Nat)(ts us:List D)(p:à),m[i]?=wz (.own ts)->m[j]?=wz (.own us)->E[i]?=wz (wz (.ref p))->E[j]?=wz (wz (.ref p))->i=j
 dc:tX K B I H C m E
variable{B:Hp}{I C:List à}{m:List Sl}{E:L2.St}
theorem Ok.grow(o:Ok K B I H C m E)(e:bF H G):Ok K B I G C m E where
 base:=o.base.trans e
 sub:=o.sub
 live:=λp hp=>by refine Â (o.live p hp) λu h1 h2=>?_;exact ⟨u,e p u h1,h2⟩
 len:=o.len
 val:=λi d h=>by refine Â (o.val i d h) λv h1 h2=>?_;exact ⟨v,h1,h2.same (bR e)⟩
 own:=λi ts h=>by refine í (o.own i ts h) λp xs h1 h2 h3 h4 h5 h6=>?_;exact ⟨p,xs,h1,h2,h3,h4,e _ _ h5,h6.same (bR e)⟩
 dis:=o.dis
 dc:=o.dc.grow e
theorem Ok.set(o:Ok K B I H C m E){i:Nat}(r:gW K (ê H C) d v):Ok K B I H C (m.set i (.val d)) (E.set i (wz v)) where
 base:=o.base
 sub:=o.sub
 live:=o.live
 len:=by simpa using o.len
 val:=λj d' h=>by
  by_cases e:i=j
  ·subst e
   have hi:i<m.length:=by
    have:=(aJ.mp h).1;simpa using this
   rw[bO hi]at h;cases h;exact⟨v,by rw[bO (by rw[<- o.len];exact hi)],r⟩
  ·rw[bG e]at h |-
   exact o.val j d' h
 own:=λj ts h=>by
  by_cases e:i=j
  ·subst e
   have hi:i<m.length:=by
    have:=(aJ.mp h).1;simpa using this
   rw[bO hi]at h;cases h
  ·rw[bG e]at h |-
   exact o.own j ts h
 dis:=λj k ts us p h1 h2 h3 h4=>by
  have ne:∀{l:Nat}{ts:List D},(m.set i (.val d))[l]?=wz (.own ts)->i≠l:=λ{l ts} h e=>by
   subst e
   have hi:i<m.length:=by
    have:=(aJ.mp h).1;simpa using this
   rw[bO hi]at h;cases h
  have e1:=ne h1;have e2:=ne h2;rw[bG e1]at h1 h3;rw[bG e2]at h2 h4;exact o.dis j k ts us p h1 h2 h3 h4
 dc:=o.dc.setS λ_ _ z=>nomatch z
def Ok.setOwn(o:Ok K B I H C m E){i:Nat}{O:List D}{F:List V}{p:à}(y:H p=wy)(r:Reps K (ê H C) O F):Ok K B I (eS H p (.lst F)) (p::C) (m.set i (.own O)) (E.set i (wz (.ref p))):=by
 have M:ê (eS H p (.lst F)) (p::C)=ê H C:=oS y;have v:=jA o.live y
 have P:∀{l:Nat}{w:List D},i≠l->m[l]?=wz (.own w)->E[l]?≠wz (wz (.ref p)):=λ{l w} _ h z=>by
  refine Í (o.own l w h) λq _ c f _=>?_;rw[z]at c;cases c;exact v f
 refine⟨o.base.trans (dN y),λq N=>aE _ (o.sub q N),λq N=>?_,by simpa using o.len,λj d h=>?_,λj w h=>?_,λj k w S q c f g n=>?_,?_⟩
 ·by_cases e:q=p
  ·subst e;rw[bU];exact .lst
  ·rw[bZ e];rcases aQ.mp N with z | z
   ·exact b9 z e
   ·exact o.live q z
 ·rw[M];by_cases e:i=j
  ·subst e;have t:i<m.length:=by simpa using(aJ.mp h).1
   rw[bO t]at h;cases h
  ·rw[bG e]at h |-
   exact o.val j d h
 ·rw[M];by_cases e:i=j
  ·subst e;have t:i<m.length:=by simpa using(aJ.mp h).1
   rw[bO t]at h;cases h;refine⟨p,F,by rw[bO (by rw[<- o.len];exact t)],aM ..,?_,λz=>v (o.sub p z),bU,r⟩
   cases q:B p with
   |none=>rfl
   |some u=>rw[o.base p u q]at y;cases y
  ·rw[bG e]at h |-
   refine í (o.own j w h) λq T c f g n Q R=>?_;refine⟨q,T,c,aE _ f,g,n,?_,R⟩;rw[bZ (λz:q=p=>v (z▸f))];exact Q
 ·by_cases A:i=j
  ·by_cases x:i=k
   ·exact A.symm.trans x
   ·subst A;have t:i<m.length:=by simpa using(aJ.mp c).1
    rw[bO (by rw[<- o.len];exact t)]at g;cases g;rw[bG x]at f n;exact b9 n (P x f)
  ·by_cases x:i=k
   ·subst x;have t:i<m.length:=by simpa using(aJ.mp f).1
    rw[bO (by rw[<- o.len];exact t)]at n;cases n;rw[bG A]at c g;exact b9 g (P A c)
   ·rw[bG A]at c g;rw[bG x]at f n;exact o.dis j k w S q c f g n
 ·exact(o.dc.setS (s:=.own O) λ_ _ z=>nomatch z).to (λj W kvs h=>⟨h,gL⟩) (λq U a b _=>⟨aE _ a,bZ λz=>by rw[z,y]at b;cases b⟩) (λq U _ _ a b=>⟨a,b⟩) (by rw[M];exact L2.bF.refl _)
def Ok.write(o:Ok K B I H C m E){i:Nat}{p:à}(v:m[i]?=wz (.own ts))(c:E[i]?=wz (wz (.ref p)))(r:Reps K (ê H C) us ys) :
  Ok K B I (eS H p (.lst ys)) C (m.set i (.own us)) E:=by
 refine í (o.own i ts v) λq Y M N O P Q W=>?_;rw[c]at M;cases M;have w:ê (eS H p (.lst ys)) C=ê H C:=fS N;have n:=(aJ.mp v).1;refine⟨λb u e=>?_,o.sub,λq R=>?_,by simpa using o.len,λj d h=>?_,λj A h=>?_,λj k vs A q g t x y=>?_,?_⟩
 ·rw[bZ (λz=>by lia)];exact o.base b u e
 ·by_cases e:q=p
  ·subst e;rw[bU];exact .lst
  ·rw[bZ e];exact o.live q R
 ·rw[w];by_cases e:i=j
  ·grind
  ·rw[bG e]at h;exact o.val j d h
 ·rw[w];by_cases e:i=j
  ·subst e;rw[bO n]at h;cases h;exact⟨p,ys,c,N,O,P,bU,r⟩
  ·rw[bG e]at h;refine í (o.own j A h) λq vs g t x y S T=>?_;refine⟨q,vs,g,t,x,y,?_,T⟩;rw[bZ (λz:q=p=>e (o.dis i j ts A p v h c (z▸g)))];exact S
 ·have back:∀{l:Nat}{vs:List D},(m.set i (.own us))[l]?=wz (.own vs)->∃f,m[l]?=wz (.own f):=λ{l vs} h=>by
   grind
  refine Ã (back g) λf g=>?_;refine Ã (back t) λF t=>?_;exact o.dis j k f F q g t x y
 ·exact(o.dc.setT (s:=.own us) λ_ _ z=>nomatch z).to (λj X kvs h=>⟨h,gL⟩) (λq U a b _=>⟨a,bZ λz=>by lia⟩) (λq U _ _ a b=>⟨a,b⟩) (by rw[w];exact L2.bF.refl _)
def Ok.shareP(o:Ok K B I H C m E){i:Nat}(w:m[i]?=wz (.own ts)):∃p A,H p=wz (.lst A)/\p∉I/\Ok K B I H (C.filter λq=>decide (q≠p)) (m.set i (.val (.list ts))) E/\bF (ê H C) (ê H (C.filter λq=>decide (q≠p))):=by
 refine í (o.own i ts w) λp A F T U M u N=>?_;have f:=(aJ.mp w).1;have c:bF (ê H C) (ê H (C.filter λq=>decide (q≠p))):=gO λq g=>(cW.mp g).1;refine⟨p,A,u,M,⟨o.base,λq g=>cW.mpr ⟨o.sub q g,a9 λz=>M (z▸g)⟩,λq g=>o.live q (cW.mp g).1,by simpa using o.len,λj d h=>?_,λj t h=>?_,λj k t Q q n r x y=>?_,?_⟩,c⟩
 ·by_cases e:i=j
  ·subst e;rw[bO f]at h;cases h;exact⟨_,F,.list (pE.of (lN (λz=>(c6 (cW.mp z).2) gL) u)) (N.same c)⟩
  ·rw[bG e]at h;refine Â (o.val j d h) λv n r=>?_;exact⟨v,n,r.same c⟩
 ·by_cases e:i=j
  ·subst e;rw[bO f]at h;cases h
  ·rw[bG e]at h;refine í (o.own j t h) λq R n r x y O P=>?_;exact⟨q,R,n,cW.mpr ⟨r,a9 λz=>e (o.dis i j ts t p w h F (z▸n))⟩,x,y,O,P.same c⟩
 ·have back:∀{l:Nat}{vs:List D},(m.set i (.val (.list ts)))[l]?=wz (.own vs)->m[l]?=wz (.own vs):=λ{l vs} h=>by
   by_cases e:i=l
   ·subst e;rw[bO f]at h;cases h
   ·rw[bG e]at h;exact h
  exact o.dis j k t Q q (back n) (back r) x y
 ·exact(o.dc.setT (s:=.val (.list ts)) λ_ _ z=>nomatch z).to (λj W kvs h=>⟨h,gL⟩) (λq S a b _=>⟨cW.mpr ⟨a,a9 λz=>by rw[z,u]at b;cases b⟩,gL⟩) (λq S _ _ a b=>⟨a,b⟩) c
def Ok.share(o:Ok K B I H C m E){i:Nat}(b:m[i]?=wz (.own ts)):∃a,Ok K B I H a (m.set i (.val (.list ts))) E/\bF (ê H C) (ê H a):=by
 refine Í (o.shareP b) λ_ _ _ _ h=>?_;exact⟨_,h⟩
abbrev ET:=List Sl->(D->Prop)->Prop
abbrev yN:=List Sl->(Bool->Prop)->Prop
abbrev AT:=List Sl->(List D->Prop)->Prop
def fP(X:Cx)(e:æ)(t:ET):Prop:=∃b,PE X e b/\∀B I H C m E Q a,Ok X.K B I H C m E->t m Q ->
 (∀d v G,bF H G->gW X.K (ê G C) d v->Q d->a v G)->b E H a
def ML(X:Cx)(e:æ)(t:yN):Prop:=∃c,PT X e c/\∀B I H C m E Q a,Ok X.K B I H C m E->t m Q ->
 (∀b G,bF H G->Q b->a b G)->c E H a
def wv(X:Cx)(e:æ)(t:yN):Prop:=∃c,PW X e c/\∀B I H C m E Q a,Ok X.K B I H C m E->t m Q ->
 (∀b G,bF H G->Q b->a b G)->c E H a
def yA(X:Cx)(d:List æ)(t:AT):Prop:=∃c,PA X d c/\∀B I H C m E Q a,Ok X.K B I H C m E->t m Q ->
 (∀b vs G,bF H G->Reps X.K (ê G C) b vs->Q b->a vs G)->c E H a
structure DB where
 nx:List Sl->Prop
 rt:D->Prop
 bk:List Sl->Prop:=λ_=>False
 ct:List Sl->Prop:=λ_=>False
 ro:List D->Prop:=λ_=>False
 rp:List D->List D->Prop:=λ_ _=>False
 rq:D->List D->Prop:=λ_ _=>False
 xB:Hp->Prop:=λ_=>True
abbrev zW:=DB->List Sl->Prop
structure RA(K:aH)(B:Hp)(I:List à)(H:Hp)(C:List à)(DT:DB)(DV:aB4):Prop where
 nx:∀G u9 o9 v4,Ok K B I G u9 o9 v4->bF (ê H C) (ê G u9)->DT.nx o9->DV.nx v4 G
 bk:∀G u9 o9 v4,Ok K B I G u9 o9 v4->bF (ê H C) (ê G u9)->DT.bk o9->DV.bk v4 G
 ct:∀G u9 o9 v4,Ok K B I G u9 o9 v4->bF (ê H C) (ê G u9)->DT.ct o9->DV.ct v4 G
 rt:∀d v G,bF B G->gW K (ê G I) d v->DT.rt d->DV.rt v G
 ro:∀ts p xs G,bF B G->B p=wy->p∉I->G p=wz (.lst xs)->Reps K (ê G (p::I)) ts xs->DT.ro ts->DV.rt (.ref p) G
 rp:∀as bs r p q xs ys G,bF B G->B r=wy->B p=wy->B q=wy->p≠q->G r=wz (.tup [.ref p,.ref q])->G p=wz (.lst xs)->G q=wz (.lst ys)->Reps K (ê G (p::q::I)) as xs->Reps K (ê G (p::q::I)) bs ys->DT.rp as bs->DV.rt (.ref r) G
 rq:∀a ts r p x xs G,bF B G->B r=wy->B p=wy->G r=wz (.tup [x,.ref p])->G p=wz (.lst xs)->gW K (ê G (p::I)) a x->Reps K (ê G (p::I)) ts xs->DT.rq a ts->DV.rt (.ref r) G
 xb:DT.xB B
def RA.later(f:RA K B I H C DT DV)(e:bF (ê H C) (ê G u9)):RA K B I G u9 DT DV:=
 ⟨λ_ _ _ _ o s q=>f.nx _ _ _ _ o (e.trans s) q,λ_ _ _ _ o s q=>f.bk _ _ _ _ o (e.trans s) q,λ_ _ _ _ o s q=>f.ct _ _ _ _ o (e.trans s) q,f.rt,f.ro,f.rp,f.rq,f.xb⟩
def EI(X:Cx)(st:é)(t:zW):Prop:=∃c,PS X st c/\∀B I H C m E a b,Ok X.K B I H C m E->t a m->RA X.K B I H C a b->c b E H
def xZ(X:Cx)(st:List é)(t:zW):Prop:=∃c,DP X st c/\∀B I H C m E a b,Ok X.K B I H C m E->t a m->RA X.K B I H C a b->c b E H
def BJ(X:Cx)(r:R2)(f:D->D->(D->Prop)->Prop):Prop:=∀H C b c x y Q a,(∀p∈C,BM (H p))->gW X.K (ê H C) b x->gW X.K (ê H C) c y->f b c Q ->
 (∀d v G,bF H G->gW X.K (ê G C) d v->Q d->a v G)->r x y H a
def tY(X:Cx)(r:List V->Hp->VK->Prop)(f:List D->(D->Prop)->Prop):Prop:=∀H C b c Q a,(∀p∈C,BM (H p))->Reps X.K (ê H C) b c->f b Q ->
 (∀d v G,bF H G->gW X.K (ê G C) d v->Q d->a v G)->r c H a
section
variable{X:Cx}{a b e:æ}{M:List æ}{l s R:ET}{pos:Pos}
inductive aIa(E:List Sl)(i:Nat)(Q:D->Prop):Prop
|mk (d:D) (h:E[i]?=wz (.val d)) (k:Q d):aIa E i Q
def N2(i:Nat):ET:=λE Q=>aIa E i Q
def eC(d:D):ET:=λ_ Q=>Q d
def aD(i:Nat){x:â}{pos}(g:autoParam (X.N[i]?=wz x) zzz._auto_1)(j:autoParam (zd X.env.scope x) zzn._auto_1)(hd:autoParam ((x==("__debug__":â))=false) zzy._auto_1)
  (c:autoParam ((x==("__classdict__":â))=false) zzy._auto_1):fP X (.Name x pos) (N2 i):=
 ⟨_,Y3 g j hd c,λB I H C m E Q n o h k=>by
  obtain⟨d,e,q⟩:=h;refine Â (o.val i d e) λv f r=>?_;exact⟨v,f,k d v H (L2.bF.refl H) r q⟩⟩
def aN{pos}:fP X (.Constant (.int i) j pos) (eC (.int i)):=⟨_,nE,λ_ _ H _ _ _ _ _ _ h k=>k _ _ H (L2.bF.refl H) (.int i) h⟩
def GD{b pos}:fP X (.Constant (.bool b) j pos) (eC (.bool b)):=⟨_,Pl,λ_ _ H _ _ _ _ _ _ h k=>k _ _ H (L2.bF.refl H) (.bool b) h⟩
def qS{pos}:fP X (.Constant .none j pos) (eC .none):=⟨_,Wq,λ_ _ H _ _ _ _ _ _ h k=>k _ _ H (L2.bF.refl H) .none h⟩
def bI{pos}:fP X (.Constant (.str x) j pos) (eC (.str x)):=⟨_,iU,λ_ _ H _ _ _ _ _ _ h k=>k _ _ H (L2.bF.refl H) (.str x) h⟩
def TN{x:â}{i:Int}{pos}(c:Gl X x)(d:X.mg x=wz (.int i t))(hd:autoParam ((x==("__debug__":â))=false) zzy._auto_1):fP X (.Name x pos) (eC (.int i)):=⟨_,lM (v:=.int i) c d ⟨t,gL⟩ hd,λ_ _ H _ _ _ _ _ _ h k=>k _ _ H (L2.bF.refl H) (.int i) h⟩
def LP{x:â}{z:â}{pos}(c:Gl X x)(d:X.mg x=wz (.str z t))(hd:autoParam ((x==("__debug__":â))=false) zzy._auto_1):fP X (.Name x pos) (eC (.str z)):=⟨_,lM (v:=.str z) c d ⟨t,gL⟩ hd,λ_ _ H _ _ _ _ _ _ h k=>k _ _ H (L2.bF.refl H) (.str z) h⟩
def wq(f:D->D->(D->Prop)->Prop)(l s:ET):ET:=λE Q=>l E λx=>s E λy=>f x y Q
def D8{f:D->D->(D->Prop)->Prop}(t:BJ X r f){j n:TE}
  (u:∀B I H C m E Q c,Ok X.K B I H C m E->l m Q->(∀d v G,bF H G->gW X.K (ê G C) d v->Q d->c v G)->j E H c)
  (hb:∀B I H C m E Q c,Ok X.K B I H C m E->s m Q->(∀d v G,bF H G->gW X.K (ê G C) d v->Q d->c v G)->n E H c)
  (B:Hp) (I:List à) (H:Hp) (C:List à) (m:List Sl) (E:L2.St) (Q:D->Prop) (c:VK) (o:Ok X.K B I H C m E) (h:wq f l s m Q) (k:∀d v G,bF H G->gW X.K (ê G C) d v->Q d->c v G):wo r j n E H c:=by
 refine u B I H C m E _ _ o h λp x J g N z=>?_;refine hb B I J C m E _ _ (o.grow g) z λq y L i O A=>?_;exact t L C p q x y Q c ((o.grow g).grow i).live (N.same (bR i)) O A λd v G P F w=>k d v G (g.trans (i.trans P)) F w
def cE{f:D->D->(D->Prop)->Prop}(g:pF X (j8 op) r)(c:BJ X r f)(d:fP X a l)(hb:fP X b s):fP X (.BinOp a op b pos) (wq f l s):=by
 refine Â d λk h i=>?_;refine Â hb λn pb j=>?_;exact⟨_,IJ g h pb,D8 c i j⟩
def oX{f:D->D->(D->Prop)->Prop}(h:pF X (d6 op) r)(c:BJ X r f)(d:fP X a l)(hb:fP X b s)(g:autoParam (i0 op b=false) zzt._auto_1):fP X (.Compare a [op] [b] pos) (wq f l s):=by
 refine Â d λo i k=>?_;refine Â hb λp j n=>?_;exact⟨_,SG h i j g,D8 c k n⟩
def bP{f:D->D->(D->Prop)->Prop}(g:hA X r)(c:BJ X r f)(d:fP X a l)(hb:fP X b s)(h:autoParam (EH b) zzv._auto_1):fP X (.Subscript a b pos) (wq f l s):=by
 refine Â d λn i j=>?_;refine Â hb λo pb k=>?_;exact⟨_,vH g i pb h,D8 c j k⟩
def Jy(l:ET):ET:=λE Q=>l E λx=>match x with | .int i=>Q (.int (-i)) | _=>False
def wJ(f:fP X a l):fP X (.UnaryOp .USub a pos) (Jy l):=by
 refine Â f λr g n=>?_;refine⟨_,Po Xr g,λB I H C m E Q q o h k=>n B I H C m E _ _ o h λd x J p j c=>?_⟩
 cases j with
 |int i=>exact⟨i,gL,k _ _ J p (.int _) c⟩
 |_=>exact c.elim
def DN:AT:=λ_ Q=>Q []
def vJ(t:ET)(r:AT):AT:=λE Q=>t E λx=>r E λc=>Q (x::c)
def aF:yA X [] DN:=⟨_,kX,λ_ _ H _ _ _ _ _ _ h k=>k _ _ H (L2.bF.refl H) .nil h⟩
def aA{tr}(g:fP X e R)(i:yA X M tr)(j:autoParam (bV (e::M) X.env=(ww,è e X.env)::bV M X.env) zzz._auto_1):yA X (e::M) (vJ R tr):=by
 refine Â g λA n v=>?_;refine Â i λF p w=>?_;refine⟨_,eF n p j,λB I H C m E Q y o h k=>v B I H C m E _ _ o h λd x J c t q=>?_⟩;refine w B I J C m E _ _ (o.grow c) q λz N L f u r=>?_;exact k _ _ L (c.trans f) (.cons (t.same (bR f)) u) r
def Jz(t:AT):ET:=λE Q=>t E λc=>c.length<=1000/\Q (.tuple c)
def Jx(t:AT):ET:=λE Q=>t E λc=>c.length<=1000/\Q (.list c)
def uO{C:List à}{p:à}{c:List D}{f:List V}(live:∀q∈C,BM (H q))(d:H p=wy)(r:Reps K (ê H C) c f):gW K (ê (eS H p (.tup f)) C) (.tuple c) (.ref p):=
 .tuple (tI.of (lN (jA live d) bU)) (r.same (bR (dN d)))
def AL{C:List à}{p:à}{c:List D}{f:List V}(live:∀q∈C,BM (H q))(d:H p=wy)(r:Reps K (ê H C) c f):gW K (ê (eS H p (.lst f)) C) (.list c) (.ref p):=
 .list (pE.of (lN (jA live d) bU)) (r.same (bR (dN d)))
def uU{n:Nat}(h:n<=1000):n<=bN:=iQ (US h)
def eV(h:yA X M t):fP X (.Tuple M x1 pos) (Jz t):=by
 refine Â h λv p r=>?_;refine⟨_,FH p,λB I H C m E Q i o h k=>r B I H C m E _ _ o h λj n J g f d=>⟨uU (by rw[<- f.length];exact d.1),λq c=>?_⟩⟩;exact k _ _ _ (g.trans (dN c)) (uO (o.grow g).live c f) d.2
def fU(h:yA X M t):fP X (.List M pos) (Jx t):=by
 refine Â h λv p r=>?_;refine⟨_,PX p,λB I H C m E Q i o h k=>r B I H C m E _ _ o h λj n J g f d=>⟨uU (by rw[<- f.length];exact d.1),λq c=>?_⟩⟩;exact k _ _ _ (g.trans (dN c)) (AL (o.grow g).live c f) d.2
def qG(f:List D->(D->Prop)->Prop)(t:AT):ET:=λE Q=>t E λc=>f c Q
abbrev mO:=List D->(D->Prop)->Prop
def mS(K:aH)(g:mO):Sp:=λvs H Q _=>∃C f c,(∀p∈C,BM (H p))/\Reps K (ê H C) f vs/\g f c/\∀d v G,bF H G->gW K (ê G C) d v->c d->Q v G
def Ys{k:Nat}{f:à}{pn}(F:nG X.prog X.w X.K X.mg X.base sC k f fd pn (mS X.K sp))(S:X.mg x=wz (.ref f))(P:gR X.K (.ref f)=wx)(hb:rY X.K fd pn [])
  (T:iF k X.A) (i:yA X (e::M) t) (n:∀{l},PA X (e::M) l->PE X (.Call (.Name x p) (e::M) [] pos) (HW (mS X.K sp) [] E0 l)):fP X (.Call (.Name x p) (e::M) [] pos) (qG sp t):=by
 refine Â i λv j z=>?_;refine⟨_,n j,λB I H C m E Q O o h k=>z B I H C m E _ _ o h λg U J c y r=>?_⟩;rw[cM];exact⟨C,g,Q,(o.grow c).live,y,r,λd v G N u q=>k d v G (c.trans N) u q⟩
def GN(t:ET):yN:=λE Q=>t E λx=>match x with | .bool b=>Q b | _=>False
def Xp(h:fP X e R)(pt:∀{t},PE X e t->PT X e (tB t)):ML X e (GN R):=by
 refine Â h λv p r=>?_;refine⟨_,pt p,λB I H C m E Q j o h k=>r B I H C m E _ _ o h λd x J i g f=>?_⟩
 cases g with
 |bool c=>exact⟨c,gL,k c J i f⟩
 |_=>exact f.elim
def cN{f:D->D->(D->Prop)->Prop}(p:pF X (d6 op) r)(i:BJ X r f)(j:fP X a l)(hb:fP X b s)(n:autoParam (i0 op b=false) zzt._auto_1):ML X (.Compare a [op] [b] pos) (GN (wq f l s)):=by
 refine Â j λF q w=>?_;refine Â hb λN t y=>?_;refine⟨_,R9 p q t n,λB I H C m E Q A o h k=>?_⟩;refine D8 i w y B I H C m E (λx=>match x with | .bool b=>Q b | _=>False) _ o h λd v G z u g=>?_
 cases u with
 |bool c=>exact⟨c,gL,k c G z g⟩
 |_=>exact g.elim
def Ai(t:yN):yN:=λE Q=>t E λb=>Q (!b)
def Co(t u:yN):yN:=λE Q=>t E λb=>if b=wx then u E Q else Q ww
def Jp(t u:yN):yN:=λE Q=>t E λb=>if b=wx then Q wx else u E Q
variable{O P:yN}{jM:List æ}
def rM(h:ML X a O):ML X (.UnaryOp .Not a pos) (Ai O):=by
 refine Â h λv p r=>?_;exact⟨_,YV p,λB I H C m E Q f o h k=>r B I H C m E _ _ o h λb G d c=>k _ G d c⟩
def rL(h:wv X e O):ML X e O:=by
 refine Â h λv p r=>?_;exact⟨_,p.pt,r⟩
def sL(h:ML X a O):wv X (.BoolOp .And [a] pos) O:=by
 refine Â h λv p r=>?_;exact⟨_,aDy p,r⟩
def yX(h:ML X a O):wv X (.BoolOp .Or [a] pos) O:=by
 refine Â h λv p r=>?_;exact⟨_,YT p,r⟩
def vR(g:ML X a O)(hb:wv X (.BoolOp .And (b::jM) pos) P):wv X (.BoolOp .And (a::b::jM) pos) (Co O P):=by
 refine Â g λu i p=>?_;refine Â hb λv j q=>?_;refine⟨_,Wu i j,λB I H C m E Q t o h k=>p B I H C m E _ _ o h λc J d f=>?_⟩
 cases c with
 |true=>exact q B I J C m E Q _ (o.grow d) f λb G r n=>k b G (d.trans r) n
 |false=>exact k _ J d f
def CT(g:ML X a O)(hb:wv X (.BoolOp .Or (b::jM) pos) P):wv X (.BoolOp .Or (a::b::jM) pos) (Jp O P):=by
 refine Â g λu i p=>?_;refine Â hb λv j q=>?_;refine⟨_,Fk i j,λB I H C m E Q t o h k=>p B I H C m E _ _ o h λc J d f=>?_⟩
 cases c with
 |true=>exact k _ J d f
 |false=>exact q B I J C m E Q _ (o.grow d) f λb G r n=>k b G (d.trans r) n
def Ju(l s:ET):ET:=λE Q=>l E λx=>match x with | .bool c=>if c=wx then s E Q else Q (.bool ww) | _=>False
def Jl(l s:ET):ET:=λE Q=>l E λx=>match x with | .bool c=>if c=wx then Q (.bool wx)else s E Q | _=>False
def CF(h:fP X a l):fP X (.BoolOp op [a] pos) l:=by
 refine Â h λv p r=>?_;exact⟨_,Y6 p,r⟩
def GE(i:fP X a l)(hb:fP X (.BoolOp .And (b::jM) pos) s):fP X (.BoolOp .And (a::b::jM) pos) (Ju l s):=by
 refine Â i λz j t=>?_;refine Â hb λA n u=>?_;refine⟨_,ZB j n,λB I H C m E Q y o h k=>t B I H C m E _ _ o h λd x J g r f=>?_⟩
 cases r with
 |bool c=>
  refine⟨c,gL,?_⟩
  cases c with
  |true=>exact u B I J C m E Q _ (o.grow g) f λd v G w q p=>k d v G (g.trans w) q p
  |false=>exact k _ _ J g (.bool ww) f
 |_=>exact f.elim
def Mf(i:fP X a l)(hb:fP X (.BoolOp .Or (b::jM) pos) s):fP X (.BoolOp .Or (a::b::jM) pos) (Jl l s):=by
 refine Â i λz j t=>?_;refine Â hb λA n u=>?_;refine⟨_,Pn j n,λB I H C m E Q y o h k=>t B I H C m E _ _ o h λd x J g r f=>?_⟩
 cases r with
 |bool c=>
  refine⟨c,gL,?_⟩
  cases c with
  |false=>exact u B I J C m E Q _ (o.grow g) f λd v G w q p=>k d v G (g.trans w) q p
  |true=>exact k _ _ J g (.bool wx) f
 |_=>exact f.elim
def QX(f g:D->D->(D->Prop)->Prop)(l s d:ET):ET:=λE Q=>l E λx=>s E λy=>f x y λz=>match z with | .bool c=>if c=wx then d E λw=>g y w Q else Q (.bool ww) | _=>False
end
end TL
set_option maxHeartbeats 1000000
namespace L2
def Q5{a b:Int}:∀l,TriplesOk l->∀y,codeAmong p (l++[t4 a,t4 b,x])=wz y->codeAmong p l=wz y\/y=x:=by
 intro l h
 fun_induction TriplesOk l with
 |case1=>
  intro y e;have c:(if(a==p.line&&b==p.col)=wx then wz x else codeAmong p [])=wz y:=e;lia
 |case2 u t v w z r f=>
  intro y e;simp only[EK,codeAmong]at e |-
  grind
 |case3=>lia
section
variable{X:Cx}{a:List (à×Obj)}{d:St}{H:Hp}{s:ã}
structure Lam(X:Cx)(H:Hp)(h:ç)(f c:à)(fd:iW):Prop where
 obj:h.get? f=wz { cls:=.type "function",data:=.func fd }
 free:H f=wy
 code:fd.code=.ref c
 trk:∃oc P,H c=wz (.frz oc (.own P))/\Bg oc
 nfr:f∉tT X.stack
def dL.builtinsAt(I:dL X a d H s){P:à}{qs}(e:s.heap.get? P=wz { cls:=.none,data:=.fields qs }):s.heap.BuiltinsAt X.mg P/\iM≠P:=by
 refine í I.mod.bmod λl o h i b j k c=>?_;refine Ð I.mod.glob λp n m f g _=>?_;refine⟨⟨l,o,h,i,λz=>?_,λz=>?_,I.bk _ _ b,j,k,c⟩,λz=>?_⟩
 ·lia
 ·have:=I.bk _ _ b;lia
 ·have:=I.bk _ _ f;lia
def aAi{g:Scope}{c P:à}{Q:á->ã->Prop}{E:á->ã->Prop}{name}{N:Nat}(I:dL X a d H s)(hT:tabA=wz P)(hc:X.env.code=.ref c)(C:aB6 X.base c P)(U:∀x∈g.names,x.2=.free->∃c,X.env.cells.lookup x.1=wz c)
  (h:∀S s' f j cl pm i,dL X a d S s'->(∀b u,H b=wz u->S b=wz u)->Lam X S s'.heap f j (PySem.W.kla_fn name qual params body g cl pm (.ref j) i)->(∀n c,cl.lookup n=wz c->X.env.cells.lookup n=wz c)->(∀n,(n,g6)∈g.names->∃c,cl.lookup n=wz c)->Q (.ref f) s') :
  å (ä X.prog X.w) X.A (makeFunction name qual params (.expr body) g X.env [] [] [] pos N) Q E s:=by
 refine Å (zO U) λcl J F G=>?_;refine Ã (I.env0.tab P hT) λps R=>?_;refine Å (I.hok P _ R) λqs T O e3=>?_;refine Ä (I.builtinsAt T) λhb Y=>?_;have hg:=I.mod.glob.keeps I.bk;have C':=C.keeps I.bk
 have nofr:∀b,s.heap.objs.size<=b->b∉tT X.stack:=λb hb z=>by
  rcases aQ.mp (I.stkSub b z)with y | y
  ·rw[y]at hb;exact b9 I.lt (aB7.mpr hb)
  ·exact I.nofs hb y
 cases Z:codeAmong pos qs.toList with
 |none=>
  refine PySem.W.kla_makeFunction J I.ok.glob hg hc C' T O Z Y hb λj i B tk hx k m K M=>?_;refine ù K λc2 q vs t q1 q2 q3 q4=>?_;cases q1;have kp:∀b o,b≠P->s.heap.get? b=wz o->(B.push (DU name qual params body g cl ((X.mg "__name__").getD .none) j i)).get? b=wz o:=λb o z e=>aK _ (hx b o z e);have nP:∀b,H b=wy->b≠P:=λb e z=>by lia
  have l:∀b u,H b=wz u->eS H j (.frz q (.own P)) b=wz u:=λb u e=>by rw[bZ (eU e (I.hok.fresh k))];exact e
  have un:Un X.fs [] H (eS H j (.frz q (.own P))) s.heap (B.push (DU name qual params body g cl ((X.mg "__name__").getD .none) j i)):=
   ⟨λb o e n _ _=>kp b o (nP b n) e,λb o e n _ _=>⟨o.slots,kp b o (nP b n) e⟩,λb o e n _=>by rw[bZ (cU (cA (bC e) k))];exact n,λb o e _=>by
    by_cases z:b=P
    ·exact⟨_,by rw[z];exact aK _ M⟩
    grind,λb xs e=>l _ _ e,λb o u e=>l _ _ e,λb ps e=>⟨#[],by grind⟩⟩
  have hok:rG X.prog X.w (eS H j (.frz q (.own P))) (B.push (DU name qual params body g cl ((X.mg "__name__").getD .none) j i)):=λb u e=>by
   by_cases z:b=j
   ·subst z;rw[bU]at e;cases e;exact⟨aK _ q2,_,aK _ q2⟩
   ·rw[bZ z]at e;by_cases z2:b=P
    ·subst z2;rw[R]at e;cases e;refine⟨_,aK _ M,?_,λp x hp=>?_⟩
     ·rw[UJ];exact TriplesOk_snoc _ _ _ _ O
     ·rw[UJ]at hp;rcases Q5 _ O _ hp with hp | hp
      ·grind
      ·exact⟨j,q,hp,bU,vs,_,t,q3,q4⟩
    ·refine(I.hok b u e).stay (λy v hy r=>kp y v ?_ r) (λy r=>l _ _ r) (λy xs r=>l _ _ r) λy o v r=>l _ _ r;lia
  refine h _ _ B.objs.size j cl _ i (I.un un hok) l ⟨bA _ gL,by rw[bZ (iP m)];exact(I.hok.fresh (bK k (iQ m))),gL,⟨q,P,bU,vs,_,t,q3,q4⟩,nofr _ (bK k (iQ m))⟩ F G
 |some cv=>
  refine Í (e3 pos cv Z) λj q r1 r2 r3=>?_;subst r1;refine PySem.W.kla_makeFunctionHit J I.ok.glob hg hc C' T O Z hb λi B tk hx L=>?_;exact h H _ B.objs.size j cl _ i (I.kept λb o e=>aK _ (hx b o e)) (λ_ _ e=>e) ⟨bA _ gL,I.hok.fresh L,gL,⟨q,P,r2,r3⟩,nofr _ L⟩ F G
end
def V4{A:e6}{R:Result->ã->Prop}{s:ã}{f c:à}{a:iW}{binds:List (â×á)}(i:A.depth<ba)(l:s.heap.NoLimit)
  (H:s.heap.get? f=wz { cls:=.type "function",data:=.func a }) (p:a.scope.isCoroutine=ww) (k:a.scope.isGenerator=ww) (hb:a.body=.expr body) (E:a.code=.ref c) (C:s.heap.get? c=wz oc) (F:Bg oc)
  (d:bindArgs a args=pure binds) (g:∀x∈a.scope.names,x.2≠.cell) (m:∀x∈binds,a.scope.names.lookup x.1=wz .local) (G:a.scope.kind=.function) (u:a.globals=iM) (n:a.builtins=o6)
  (h:∀q j,j.Ns s.heap.objs.size (λy=>binds.reverse.lookup y)->(∀b o,s.heap.get? b=wz o->j.get? b=wz o) ->
   å (ä prog w) (A.deeper (vE q a.scope s.heap.objs.size f a.code a.closure)) (è body (vE q a.scope s.heap.objs.size f a.code a.closure)) (λv J=>R (.ok (.ret v)) J) (λ_ _=>False) { s with heap:=j,toks:=s.toks+binds.length }) :
  x0 (ä prog w) A (.call (.ref f) args) R s:=by
 refine Ï F λvs q t hd I=>?_;refine codeAny_of_tree ?_;show å _ A.in1 (callAny (.ref f) args) _ _ s;refine aG (jg H ?_);simp only[callFunction,p,k,hb,E];refine aG (f6 C hd I (aG (bB ?_)));rw[d,u,n];refine aG (bB (aG (wpAny_newFunctionEnv g m (λj z B=>?_) G)));have kp:=λb o e=>B.extBut b o (cU (bC e)) (aK _ e);refine aG (wpAny_enterFrame (l.keeps kp) i (bB ⟨gL,?_⟩));have:=h q j z kp;rw[E]at this;exact PySem.W.kla_codeExpr (eN this (λ_ _ r=>r) λ_ _ r=>r.elim)
noncomputable abbrev AY:Scope:={ kind:=.function,names:=[(c9 "entry",.local),(c9 "bottom",.free)],isGenerator:=ww,isCoroutine:=ww,more:=[] }
noncomputable def NR(X:Cx)(A':e6)(q:â)(f:à)(cd:á)(cl:List (â×à))(s:ã)(H:Hp):Cx where
 prog:=X.prog
 w:=X.w
 K:=X.K
 mg:=X.mg
 base:=X.base
 A:=A'.deeper (vE q AY s.heap.objs.size f cd cl)
 N:=["entry","bottom"]
 s₀:=s
 H₀:=H
 env:=vE q AY s.heap.objs.size f cd cl
 outer:=X.stack
 stack:=vE q AY s.heap.objs.size f cd cl::X.stack
 ex:=[]
 fn:=λ_=>ww
 calm:=wx
 pn:=[]
 xe:=λ_ _=>False
def Yw{X:Cx}{A':e6}{q:â}{f m:à}{cd}{cl:List (â×à)}{s:ã}{k:ç}{tk:Nat}{b:Int}(I:dL X pins σ H s)(E:A'.frames=wz X.stack)(C:A'.handled=wy)
  (g:∀n c,cl.lookup n=wz c->X.env.cells.lookup n=wz c) (l:cl.lookup ("bottom":â)=wz m) (h:s.heap.IsCell m (wz (.int b t))) (r:fK x u)
  (A:k.Ns s.heap.objs.size (λy=>[((c9 "entry":â),u)].reverse.lookup y)) (kp:∀b o,s.heap.get? b=wz o->k.get? b=wz o) :
  dL (NR X A' q f cd cl s H) [] [wz x,wz (.int b)] H { s with heap:=k,toks:=tk }:=by
 have d:=I.env0;have hI:∀b:à,b∉(NR X A' q f cd cl s H).ex:=λb z=>b9 (show b∈([]:List à)from z) gC
 have J:∀y:â,AY.names.lookup y=wz .cell\/AY.names.lookup y=wz .free->y="bottom":=λy j=>by
  grind
 refine Â h λK F w=>?_
 refine⟨⟨d.mod,gL,gL,gL,aP _,λy z c a a2=>I.ok.inj y z c (g y c a) (g z c a2),λy j=>?_,λy c z=>(nomatch (show ww=wx from z)),λ_=>C,eh E,.inr ⟨gL,gL⟩,λb z=>b9 z (hI b),d.bs,d.bsz,λb _ _=>hI b,λb z=>b9 z (hI b),d.funs,d.frf,d.tab⟩,
  rfl,d.bare,Un.kept kp,⟨_,A,λi y v a a2 L=>?_⟩,λy c a=>?_,d.hok.fresh (aP _),λy c a=>I.freeC y c (g y c a),λp G=>b9 (show p∈([]:List (à×Obj))from G) gC,d.hok.kept kp,gL⟩
 ·have:=J y j;rw[this];exact⟨m,l⟩
 ·match i,a,a2 with
  |0,a,a2=>
   cases a;cases a2;exact⟨u,r,.inl ⟨gL,gL⟩⟩
  |1,a,a2=>
   cases a;cases a2;exact⟨.int b t,⟨t,gL⟩,.inr ⟨.inr gL,m,l,(⟨K,kp _ _ F,w⟩)⟩⟩
  |i+2,a,a2=>cases a
 ·refine Î (I.cell y c (g y c a)) λv o k B=>?_;exact⟨v,o,kp _ _ k,B⟩
def Un.butA{fs}{h c g:ç}{a:à}(u:Un fs ex H H1 h c)(f:fX a c g)(i:h.objs.size<=a):Un fs ex H H1 h g:=by
 have ne:∀b o,h.get? b=wz o->b≠a:=λb o e=>cU (cA (bC e) i);refine⟨λb o e n c d=>(f.2 b (ne b o e)).trans (u.keep b o e n c d),λb o e n c d=>?_,u.free,λb o e d=>?_,u.tups,u.frzs,u.tbls⟩
 ·obtain⟨k,z⟩:=u.slot b o e n c d;exact⟨k,(f.2 b (ne b o e)).trans z⟩
 ·obtain⟨j,z⟩:=u.there b o e d;exact⟨j,(f.2 b (ne b o e)).trans z⟩
def Un.new{fs}{h h1:ç}{a:à}(u:Un fs ex H H1 h h1)(hn:H1 a=wy)(ha:h.objs.size<=a):Un fs ex H (eS H1 a o) h h1 where
 keep:=u.keep
 slot:=u.slot
 free:=λb ob e n hx=>by rw[bZ (cU (cA (bC e) ha))];exact u.free b ob e n hx
 there:=u.there
 tups:=λb xs e=>by have z:=u.tups b xs e;rw[bZ (eU z hn)];exact z
 frzs:=λb ob v e=>by have z:=u.frzs b ob v e;rw[bZ (eU z hn)];exact z
 tbls:=λb ps e=>by
  obtain⟨m,z⟩:=u.tbls b ps e;exact⟨m,by rw[bZ (eU z hn)];exact z⟩
theorem rG.new{h}{a:à}(x:rG P w H h)(d:H a=wy)(new:jF P w (eS H a o) h a o):rG P w (eS H a o) h:=λb u e=>by
 by_cases hb:b=a
 ·subst hb;rw[bU]at e;lia
 ·rw[bZ hb]at e;have st:∀c v,H c=wz v->eS H a o c=wz v:=λc v q=>by rw[bZ (eU q d)];exact q
  exact(x b u e).stay (λc v _ q=>q) (λc q=>st _ _ q) (λc f q=>st _ _ q) λc ob v q=>st _ _ q
noncomputable abbrev Ef(p:Pos):Arguments:={ posonlyargs:=[],args:=[{ arg:="entry",annotation:=wy,pos:=p }],vararg:=wy,kwonlyargs:=[],kw_defaults:=[],kwarg:=wy,defaults:=[] }
def HE(K:aH)(H:Hp)(b:Int)(x:V)(k:Int):Prop:=∃q a c d top bot,x=.ref q/\tI K H q [a,c,.ref d]/\tI K H d [.int top,.int bot]/\Ac b bot/\RF top (b / bot)/\k=top*(b / bot)
def HE.same{K}{H a:Hp}{b:Int}{k:Int}(h:HE K H b x k)(s:∀c u,H c=wz u->a c=wz u):HE K a b x k:=by
 refine ú h λq j l d top bot e f g i=>?_;exact⟨q,j,l,d,top,bot,e,TL.bF.seqT s f,TL.bF.seqT s g,i⟩
section
variable{g l n B E F G M O a R S U:Pos}
def Wp{X:Cx}{q:â}{f:à}{cd}{pins:List (à×Obj)}{b k:Int}(I:dL (NR X A' q f cd cl s H) [] [wz x,wz (.int b)] H s1)(h:HE X.K H b x k) :
  å (ä X.prog X.w) (NR X A' q f cd cl s H).A (è (.BinOp (.Subscript (.Subscript (.Name "entry" g) (.Constant (.int 2) 0 l) n) (.Constant (.int 0) 0 B) E) .Mult (.BinOp (.Name "bottom" F) .FloorDiv (.Subscript (.Subscript (.Name "entry" G) (.Constant (.int 2) 0 M) O) (.Constant (.int 1) 0 a) R) S) U) (NR X A' q f cd cl s H).env)
   (EP (NR X A' q f cd cl s H) [] [wz x,wz (.int b)] λv j=>v=.int k/\j=H) (λ_ _=>False) s1:=by
 have p:PE (NR X A' q f cd cl s H) (.BinOp (.Subscript (.Subscript (.Name "entry" g) (.Constant (.int 2) 0 l) n) (.Constant (.int 0) 0 B) E) .Mult (.BinOp (.Name "bottom" F) .FloorDiv (.Subscript (.Subscript (.Name "entry" G) (.Constant (.int 2) 0 M) O) (.Constant (.int 1) 0 a) R) S) U) _:=
  IJ ZC (vH aY (vH aY (pv 0) nE (by intro _ _;rfl)) nE (by intro _ _;rfl)) (IJ AR (pv 1) (vH aY (vH aY (pv 0) nE (by intro _ _;rfl)) nE (by intro _ _;rfl)))
 refine û h λi r t d top bot z c e m o y=>?_;subst z y;refine p [] s1 _ H _ I ?_;refine⟨_,gL,.inr (.inl ⟨i,_,2,.ref d,gL,gL,c,gL,.inr (.inl ⟨d,_,0,.int top,gL,gL,e,gL,?_⟩)⟩)⟩;refine⟨_,gL,_,gL,.inr (.inl ⟨i,_,2,.ref d,gL,gL,c,gL,.inr (.inl ⟨d,_,1,.int bot,gL,gL,e,gL,?_⟩)⟩)⟩;exact⟨b,bot,gL,gL,m,top,b / bot,gL,gL,o,gL,gL⟩
def Yd(K:aH)(ib:Nat)(m:TA):TE:=λj H Q=>m j H λvs e=>∃(p:à)(d:List V)(b:Int)(h:List Int),vs=[.ref p]/\pE K e p d/\d.length<64/\j[ib]?=wz (wz (.int b))/\h.length=d.length/\(∀(i:Nat) x k,d[i]?=wz x->h[i]?=wz k->HE K e b x k) /\
 ∀f,(∀c u,e c=wz u->f c=wz u)->∀J r,SS.MK d.length (λi=>h.getD i 0) J->f r=wy->Q (.ref r) (eS f r (.lst (J.map λi=>d.getD i .non)))
def Y4{X:Cx}{ib:Nat}{k:Nat}{c P:à}(hr:iF (k+3) X.A)(hT:tabA=wz P)(hc:X.env.code=.ref c)(C:CN X.K c P=wx)(qx:X.N[ib]?=wz "bottom")(hk:X.env.kindOf "bottom"=wz .cell)
  (hg:Gl X "sorted") (hm:X.mg "sorted"=wy) (hv:d9 "sorted"=wz (.builtin "sorted")) (ha:PA X [e] ta)
  (he:autoParam (j7 pos (bV [e] X.env)=(ww,è e X.env)::j7 pos (bV [] X.env)) zzz._auto_1)
  (mw:autoParam ((j7 pos (bV [e] X.env)).any (·.1)=false) zzz._auto_1) :
  PE X (.Call (.Name "sorted" np) [e] [⟨wz (c9 "key"),.Lambda (Ef ap) (.BinOp (.Subscript (.Subscript (.Name "entry" g) (.Constant (.int 2) 0 l) n) (.Constant (.int 0) 0 B) E) .Mult (.BinOp (.Name "bottom" F) .FloorDiv (.Subscript (.Subscript (.Name "entry" G) (.Constant (.int 2) 0 M) O) (.Constant (.int 1) 0 a) R) S) U) AY lp,kp⟩] pos) (Yd X.K ib ta):=by
 intro pins s σ H Q I h;refine o7 (zL I hg hm hv ?_ cS cS);refine callWith_kw (jE (ha pos pins s σ H _ I h) λus s1 zq=>?_) he mw;refine Í zq λvs H1 I1 r1 a=>?_;refine ü a λp xs b kz V hS lz uh se mh q=>?_;subst V;refine Â (nI r1) λu V ru=>?_;subst V;cases ru
 have iv:∀x∈AY.names,x.2=.free->∃c,X.env.cells.lookup x.1=wz c:=λx hx hf=>by
  have nj:x=(c9 "entry",NameKind.local)\/x=(c9 "bottom",g6):=by simpa using hx
  rcases nj with rfl | rfl
  ·cases hf
  ·exact I.ok.has "bottom" (.inl hk)
 refine kws_cons (PySem.W.kla_eval gL (aAi I1 hT hc (PySem.W.codeHd_of_K I.mod.kin C) iv λH2 s2 f c' cl pm uy r sH L og qm=>kws_nil ?_));refine Ã (qm "bottom" (aE _ (aM ..))) λcb kr=>?_;refine Å (r.list (L2.bF.seq sH hS)) λbt rv mw hz=>?_;have d:=rv.length;have Z:=(iF.in1 hr).in1
 have nofr:∀b,s2.heap.objs.size<=b->b∉tT X.stack:=λb hb z=>by
  rcases aQ.mp (r.stkSub b z)with y | y
  ·rw[y]at hb;exact b9 r.lt (aB7.mpr hb)
  ·exact r.nofs hb y
 let Tp:ã->Prop:=λY=>Y.os=s2.os/\v9 Y.gens/\Un (tT X.stack) [] H2 H2 s2.heap Y.heap/\rG X.prog X.w H2 Y.heap
 have T:SS.WA Tp s2.heap.objs.size:=by
  refine⟨λY x h' tk t hx hs=>⟨t.1,t.2.1,t.2.2.1.butA hs hx,t.2.2.2.but (r.hok.fresh hx) hs⟩,λY o t=>⟨t.1,t.2.1,t.2.2.1.trans (Un.kept λb u e=>aK _ e),t.2.2.2.kept λb u e=>aK _ e⟩⟩
 have turn:SS.lE X.prog X.w X.A.in1.in1 Tp s2.heap.objs.size f bt kz:=λi v k0 Y hv rm t=>by
  have I':=(λY t=>r.call' (ch:=[]) t.1 t.2.2.1 t.2.2.2 t.2.1 (λb z=>b9 z gC)) Y t
  obtain⟨x,hx,rx⟩:∃x,xs[i]?=wz x/\fK x v:=by
   have hi:i<xs.length:=by rw[d];exact(aJ.mp hv).1
   refine Â (rv.get (aL hi)) λu h1 h2=>?_;rw[hv]at h1;cases h1;exact⟨_,aL hi,h2⟩
  refine Â I'.loc λm hn hl=>?_;refine Â (hl ib "bottom" (.int b) qx uh (.inr (.inl hk))) λub ur lb=>?_;refine Ã ur λtb V=>?_;subst V
  have cell:Y.heap.IsCell cb (wz (.int b tb)):=by
   rcases lb with⟨z,_⟩ | ⟨_,c0,z1,z2⟩
   ·rw[hk]at z;cases z
   ·have:=og _ _ kr;rw[this]at z1;cases z1;exact z2
  refine Î L.trk λoc P' w1 w2=>?_;refine Ä (I'.hok c' _ w1) λuo _=>?_;refine fb (V4 Z.depth I'.nolimit (t.2.2.1.keep f _ L.obj L.free L.nfr gC) gL gL gL gL uo w2 gL (λy hy=>?_) (λy hy=>?_) gL gL gL λqn h1 mu kp=>?_)
  ·have iw:y=(c9 "entry",NameKind.local)\/y=(c9 "bottom",g6):=by simpa using hy
   rcases iw with rfl | rfl<;>simp
  ·rw[aU.mp hy];rfl
  ·have J:=Yw (q:=qn) (f:=f) (cd:=.ref c') (tk:=Y.toks+1) (A':=X.A.in1.in1) I' r.ok.frames Z.hd og kr cell rx mu kp;refine eN (Wp (pins:=pins) J ((mh i x k0 hx rm).same sH)) (λu s3 hu=>?_) λ_ _ z=>z;refine Ñ hu λv3 H3 J3 r3 V zz0=>?_;subst V zz0;refine Ã r3 λt3 V=>?_;subst V;exact⟨t3,gL,⟨J3.os.trans t.1,J3.bare,t.2.2.1.trans J3.base,J3.hok⟩,λb o hb e=>J3.base.keep b o e (r.hok.fresh hb) (nofr b hb) (by simp[NR])⟩
 refine SS.UR T (⟨gL,r.bare,Un.refl,r.hok⟩) mw.isList (aP _) (by rw[se,d]) (by rw[<- d];exact lz) turn λY D out cc J t hD ho sb mv=>?_;have ma:=r.hok.fresh hD;rw[<- d]at sb;have hL:(2:Nat)^24=bN:=rfl
 have vals:fN (J.map λi=>xs.getD i .non) out.toList:=by
  rw[mv]
  have:∀J:List Nat,(∀i∈J,i<xs.length)->fN (J.map λi=>xs.getD i .non) (J.map λi=>bt.getD i .none):=by
   intro J hJ
   induction J with
   |nil=>exact .nil
   |cons j J ih=>
    refine .cons ?_ (ih λi hi=>hJ i (aE _ hi));have hj:=hJ j (aM ..);refine Â (rv.get (aL hj)) λu h1 h2=>?_;show fK (xs.getD j .non) (bt.getD j .none);rw[dM,dM,h1,aL hj];exact h2
  exact this J sb.lt
 refine⟨.ref D,_,r.call' (H':=eS H2 D (.lst (J.map λi=>xs.getD i .non))) t.1 (t.2.2.1.new ma hD) (t.2.2.2.new ma ⟨?_,out.toList,cc,vals,?_⟩) t.2.1 (λb z=>b9 z gC),gL,q H2 sH J D sb ma⟩
 ·rw[aC,sb.len,<- hL];lia
 ·simpa[i4]using ho
end
end L2
namespace TL
open L2
variable{K:aH}{H L T U:Hp}{B:Hp}{O I:List à}{C:List Sl}{G:L2.St}
section
variable{X:Cx}{a b c e:æ}{es:List æ}{Y Z tc W:ET}{pos:Pos}
def GK{f g:D->D->(D->Prop)->Prop}(M:BJ X r f)(n:BJ X m g){u A E:TE}
  (N:∀B O H I C G Q i,Ok X.K B O H I C G->Y C Q->(∀d v L,bF H L->gW X.K (ê L I) d v->Q d->i v L)->u G H i)
  (hb:∀B O H I C G Q i,Ok X.K B O H I C G->Z C Q->(∀d v L,bF H L->gW X.K (ê L I) d v->Q d->i v L)->A G H i)
  (P:∀B O H I C G Q i,Ok X.K B O H I C G->tc C Q->(∀d v L,bF H L->gW X.K (ê L I) d v->Q d->i v L)->E G H i)
  (B:Hp) (O:List à) (H:Hp) (I:List à) (C:List Sl) (G:L2.St) (Q:D->Prop) (i:VK) (o:Ok X.K B O H I C G) (h:QX f g Y Z tc C Q) (k:∀d v L,bF H L->gW X.K (ê L I) d v->Q d->i v L):PH r m u A E G H i:=by
 refine N B O H I C G _ _ o h λJ x T j r1 S=>?_;refine hb B O T I C G _ _ (o.grow j) S λs y U l t q2=>?_;refine M U I J s x y _ _ ((o.grow j).grow l).live (r1.same (bR l)) t q2 λd3 z H3 s3 r3 p=>?_
 cases r3 with
 |bool c=>
  refine⟨c,gL,?_⟩
  cases c with
  |false=>exact k _ _ H3 (j.trans (l.trans s3)) (.bool ww) p
  |true=>
   refine P B O H3 I C G _ _ (((o.grow j).grow l).grow s3) p λd4 w F q r4 q4=>?_;exact n F I s d4 y w Q i ((((o.grow j).grow l).grow s3).grow q).live ((t.same (bR s3)).same (bR q)) r4 q4 λd v L s' m R=>k d v L (j.trans (l.trans (s3.trans (q.trans s')))) m R
 |_=>exact p.elim
def aBa{f g:D->D->(D->Prop)->Prop}(m:pF X (d6 op) r)(h:pF X (d6 op') r')(i:BJ X r f)(d:BJ X r' g)(j:fP X a Y)(hb:fP X b Z)(k:fP X c tc)
  (l:autoParam (fz [op,op'] [b,c]=false) zzq._auto_1):fP X (.Compare a [op,op'] [b,c] pos) (QX f g Y Z tc):=by
 refine Â j λu n q=>?_;refine Â hb λv o s=>?_;refine Â k λw p t=>?_;exact⟨_,Y9 m h n o p l,GK i d q s t⟩
def XN{f g:D->D->(D->Prop)->Prop}(t:pF X (d6 op) r)(l:pF X (d6 op') i)(n:BJ X r f)(j:BJ X i g)(p:fP X a Y)(hb:fP X b Z)(q:fP X c tc)
  (s:autoParam (fz [op,op'] [b,c]=false) zzq._auto_1):ML X (.Compare a [op,op'] [b,c] pos) (GN (QX f g Y Z tc)):=by
 refine Â p λM u z=>?_;refine Â hb λN w A=>?_;refine Â q λP y E=>?_;refine⟨_,YX t l u w y s,λB O H I C G Q J o h k=>?_⟩;refine GK n j z A E B O H I C G (λx=>match x with | .bool b=>Q b | _=>False) _ o h λd v L F i m=>?_
 cases i with
 |bool c=>grind
 |_=>lia
abbrev OT:=List Sl->(Option Int->Prop)->Prop
def zg(X:Cx)(e:Option æ)(t:OT):Prop:=∃to,PO X e to/\∀B O H I C G Q d,Ok X.K B O H I C G->t C Q ->
 (∀i L,bF H L->Q i->d i L)->to G H d
def Oj:OT:=λ_ Q=>Q wy
def Ol(t:ET):OT:=λG Q=>t G λx=>match x with | .int i=>Q (wz i) | _=>False
def fG:zg X wy Oj:=⟨_,aD3,λ_ _ H _ _ _ _ _ _ h k=>k _ H (L2.bF.refl H) h⟩
def eL(h:fP X e W):zg X (wz e) (Ol W):=by
 refine Â h λv p r=>?_;refine⟨_,aD2 p,λB O H I C G Q l o h k=>r B O H I C G _ _ o h λd x T j g f=>?_⟩
 cases g with
 |int i=>exact⟨i,gL,k _ T j f⟩
 |_=>exact f.elim
def Ii(X:Cx)(r:V->Option Int->Option Int->Hp->VK->Prop)(f:D->Option Int->Option Int->(D->Prop)->Prop):Prop:=∀H I d x lo h Q g,(∀p∈I,BM (H p))->gW X.K (ê H I) d x->f d lo h Q ->
 (∀d v L,bF H L->gW X.K (ê L I) d v->Q d->g v L)->r x lo h H g
def Jj(f:D->Option Int->Option Int->(D->Prop)->Prop)(t:ET)(tl d:OT):ET:=λG Q=>t G λx=>tl G λl=>d G λu=>f x l u Q
def dZ{r:V->Option Int->Option Int->Hp->VK->Prop}{f:D->Option Int->Option Int->(D->Prop)->Prop}{lo tl}(q:gV X r)(m:Ii X r f)(n:fP X e W)(p:zg X lo tl)(s:zg X hi th) :
  fP X (.Subscript e (.Slice lo hi wy p2) pos) (Jj f W tl th):=by
 refine Â n λS t N=>?_;refine Â p λvl w rl=>?_;refine Â s λvu y P=>?_;refine⟨_,Y5 q t w y,λB O H I C G Q j o h k=>N B O H I C G _ _ o h λd x T g M A=>?_⟩;refine rl B O T I C G _ _ (o.grow g) A λl U i E=>?_;refine P B O U I C G _ _ ((o.grow g).grow i) E λu H3 s3 F=>?_;exact m H3 I d x l u Q j (((o.grow g).grow i).grow s3).live ((M.same (bR i)).same (bR s3)) F λd v L R J z=>k d v L (g.trans (i.trans (s3.trans R))) J z
variable{st:é}{jM:List é}{t u:zW}
def pW:zW:=λd G=>d.nx G
def qO(t u:zW):zW:=λd G=>t { d with nx:=u d } G
def fM:xZ X [] pW:=⟨_,SA,λB O H I C G d g o h f=>f.nx H I C G o (L2.bF.refl _) h⟩
def aW(l:EI X st t)(m:xZ X jM u):xZ X (st::jM) (qO t u):=by
 refine Â l λy p s=>?_;refine Â m λx q v=>?_;refine⟨_,nK p q,λB O H I C G g i o h f=>s B O H I C G { g with nx:=u g } { i with nx:=x i } o h ⟨λL j d k n w r=>?_,f.bk,f.ct,f.rt,f.ro,f.rp,f.rq,f.xb⟩⟩;exact v B O L j d k g i n r (f.later w)
def bQ(d:EI X st t):xZ X [st] t:=by
 refine Â d λh f g=>?_;exact⟨_,D6 f,g⟩
def Ww(i:Nat)(t:zW):zW:=λf G=>∃d,G[i]?=wz (.own d)/\t f (G.set i (.val (.list d)))
def rP(i:Nat)(h:xZ X sts t):xZ X sts (Ww i t):=by
 refine Â h λv p r=>?_;refine⟨_,p,λB O H I C G g j o h f=>?_⟩;refine Â h λm e h=>?_;refine Â (o.share e) λd k l=>?_;exact r B O H d _ G g j k h (f.later l)
def Kp(W:ET):zW:=λd G=>W G d.rt
def cK(h:fP X e W):EI X (.Return (wz e) pos) (Kp W):=by
 refine Â h λv p r=>?_;refine⟨_,B0 p,λB O H I C G k l o h f=>r B O H I C G _ _ o h λd x L j i g=>?_⟩;exact f.rt d x L (o.base.trans j) (i.same (gO o.sub)) g
def lS(c:yN)(t u:zW):zW:=λd G=>c G λb=>if b=wx then t d G else u d G
def iN{c a b tc}(m:ML X c tc)(l:xZ X a t)(hb:xZ X b u):EI X (.If c a b pos) (lS tc t u):=by
 refine Â m λy q v=>?_;refine Â l λw n r=>?_;refine Â hb λx p s=>?_;refine⟨_,Fi q n p,λB O H I C G i j o h f=>v B O H I C G _ _ o h λd T g k=>?_⟩
 cases d with
 |true=>exact r B O T I C G i j (o.grow g) k (f.later (bR g))
 |false=>exact s B O T I C G i j (o.grow g) k (f.later (bR g))
def KP(i:Nat)(W:ET):zW:=λf G=>W G λd=>f.nx (G.set i (.val d))
def X1{i:Nat}(h:fP X e W)(g:∀{v},PE X e v->PS X (.Assign [.Name x pos'] e pos) (xT v (nD i))):EI X (.Assign [.Name x pos'] e pos) (KP i W):=by
 refine Â h λv p r=>?_;refine⟨_,g p,λB O H I C G m n o h f=>r B O H I C G _ _ o h λd x L j l k=>?_⟩;exact f.nx L I _ _ ((o.grow j).set l) (bR j) k
def Au(i:Nat)(t:AT):zW:=λf G=>t G λd=>d.length<=1000/\f.nx (G.set i (.own d))
def Ya{i:Nat}{t}(h:yA X es t)(d:∀{v},PE X (.List es p2) v->PS X (.Assign [.Name x pos'] (.List es p2) pos) (xT v (nD i))):EI X (.Assign [.Name x pos'] (.List es p2) pos) (Au i t):=by
 refine Â h λv p r=>?_;refine⟨_,d (PX p),λB O H I C G m n o h f=>r B O H I C G _ _ o h λs w T l k j=>⟨uU (by rw[<- k.length];exact j.1),λq g=>?_⟩⟩;exact f.nx _ (q::I) _ _ ((o.grow l).setOwn g k) ((bR l).trans (by rw[oS g];exact L2.bF.refl _)) j.2
def As(i:Nat)(W:ET):zW:=λg G=>∃f,G[i]?=wz (.own f)/\W G λd=>f.length<=100000/\g.nx (G.set i (.own (f++[d])))
def zB{i:Nat}{e W}(Q:PE X n (pD i))(w:fP X e W)(z:autoParam (bV [e] X.env=(ww,è e X.env)::bV [] X.env) zzz._auto_1)
  (pb:∀{Y},PA X [e] Y->PS X (.Expr (.Call (.Attribute n "append" ap) [e] [] cp) pos) (HV (RQ X.K "list" R7 (pD i) Y))):EI X (.Expr (.Call (.Attribute n "append" ap) [e] [] cp) pos) (As i W):=by
 refine Â w λv p r=>?_;refine⟨_,pb (eF p kX z),λB O H I C G J M o h f=>?_⟩;refine Â h λF e h=>?_;refine í (o.own i F e) λq m j s N P k l=>?_;refine⟨.ref q,j,.inl ⟨gL,m,pE.of k⟩,r B O H I C G _ _ o h λd x T g E A=>?_⟩;refine⟨q,m,x,gL,gL,g _ _ k,?_,?_⟩
 ·rw[<- l.length];have:bN=2^24:=rfl;lia
 ·have y:=(l.same (bR g)).append (.cons E .nil);exact f.nx _ I _ G ((o.grow g).write e j y) ((bR g).trans (by rw[fS s];exact L2.bF.refl _)) A.2
noncomputable def ID(x:â):List D:=x.cps.toList.map λc=>.str ⟨#[c]⟩
noncomputable def S9:D->Option (List D)
|.list ts=>wz ts
|.tuple ts=>wz ts
|.str x=>wz (ID x)
|_=>wy
def wC(G:List Sl):Prop:=∀(i:Nat)(s:Sl),(∀d,s≠.val d)->s≠.un->G[i]?≠wz s
def rF{G:List Sl}(h:wC G)(i:Nat)(d:D):wC (G.set i (.val d)):=λj s f k e=>by
 by_cases z:i=j
 ·subst z;have g:i<G.length:=by simpa using(aJ.mp e).1
  rw[bO g]at e;exact f d (c7 e).symm
 ·rw[bG z]at e;exact h j s f k e
theorem wC.own{G}(h:wC G)(i:Nat)(d:List D):G[i]?≠wz (.own d):=h i _ (λ_ z=>nomatch z) λz=>nomatch z
theorem wC.dic{G}(h:wC G)(i:Nat)(d:List Int)(kvs:List (D×D)):G[i]?≠wz (.dic d kvs):=h i _ (λ_ z=>nomatch z) λz=>nomatch z
abbrev GT:=D->List Sl->(List Sl->Prop)->Prop
def OX(X:Cx)(k:æ)(g:GT):Prop:=∃j,PG X k j/\∀B O H I C G d v Q i,Ok X.K B O H I C G->gW X.K (ê H I) d v->g d C Q ->
 (∀f h,Ok X.K B O H I f h->(wC C->wC f)->Q f->i h H)->j v G H i
def gN(i:Nat):GT:=λd G Q=>Q (G.set i (.val d))
def eB{i:Nat}(h:PG X (.Name x p) (nD i)):OX X (.Name x p) (gN i):=
 ⟨_,h,λB O H I C G d v Q f o r h k=>k _ _ (o.set r) (λn=>rF n _ _) h⟩
def gP(i j:Nat):GT:=λd G Q=>∃a b,d=.tuple [a,b]/\Q ((G.set i (.val a)).set j (.val b))
def pU{i j:Nat}{t}(h:PG X t (Ak X.K 2 (JH (nD i) (JH (nD j) Aj)))):OX X t (gP i j):=
 ⟨_,h,λB O H I C G d v Q l o r h k=>by
  obtain⟨a,b,rfl,h⟩:=h
  cases r with
  |@tuple p xs _ hq r=>
   cases r with
   |cons f r=>
    cases r with
    |cons g r=>
     cases r;exact⟨_,_,gL,bF.seqT bX hq,gL,_,_,gL,_,_,gL,gL,k _ _ ((o.set f).set g) (λn=>rF (rF n _ _) _ _) h⟩⟩
structure aLo(K:aH)(Hs:Hp)(ts:List D)(J:It):Prop where
 stop:∀(i:Nat)H,bF Hs H->ts.length<=i->J.stop i H
 go:∀(i:Nat)H,bF Hs H->i<ts.length->J.go i H
 yld:∀(i:Nat)H I(y:V)L,(∀p∈I,BM (H p))->bF Hs (ê H I)->i<ts.length->J.yld i H y L->bF H L/\∃dx,ts[i]?=wz dx/\gW K (ê L I) dx y
abbrev IT:=List Sl->(List D->Prop)->Prop
def T9(X:Cx)(g iter:æ)(t:IT):Prop:=∃f,PI X g iter f/\∀B O H I C G Q R,Ok X.K B O H I C G->t C Q ->
 (∀d J L,bF H L->aLo X.K (ê L I) d J->Q d->R J L)->f G H R
def Ct(W:ET):IT:=λG Q=>W G λd=>∃f,S9 d=wz f/\Q f
def aDv(r:gW K Hs d x)(l:S9 d=wz ts){R:It->Hp->Prop}(o:bF Hs T)(h:∀J,aLo K Hs ts J->R J T) :
  (∃a,x=.ref a/\(∃f,pE K T a f)/\R (Bu K a) T)\/(∃a,x=.ref a/\(∃f,tI K T a f)/\R (Bs K a) T)\/∃z,x=.str z/\R (zi z) T:=by
 cases r with
 |@list p f us q rs=>
  obtain rfl:=c7 l;refine .inl ⟨p,gL,⟨f,L2.bF.seq o q⟩,h _ ⟨λi H e g=>⟨f,L2.bF.seq e q,by rw[<- rs.length];exact g⟩,λi H e g=>?_,λi H I y L _ e g j=>?_⟩⟩
  ·refine Â (rs.get (aL g)) λv n _=>?_;exact⟨f,v,L2.bF.seq e q,n⟩
  ·refine Ä j λw j=>?_;subst w;refine Â (rs.get' (j f (L2.bF.seq (e.trans bX) q))) λdx m k=>?_;exact⟨L2.bF.refl _,dx,m,k.same e⟩
 |@tuple p f us q rs=>
  obtain rfl:=c7 l;refine .inr (.inl ⟨p,gL,⟨f,bF.seqT o q⟩,h _ ⟨λi H e g=>⟨f,bF.seqT e q,by rw[<- rs.length];exact g⟩,λi H e g=>?_,λi H I y L _ e g j=>?_⟩⟩)
  ·refine Â (rs.get (aL g)) λv n _=>?_;exact⟨f,v,bF.seqT e q,n⟩
  ·refine Ä j λw j=>?_;subst w;refine Â (rs.get' (j f (bF.seqT (e.trans bX) q))) λdx m k=>?_;exact⟨L2.bF.refl _,dx,m,k.same e⟩
 |str z=>
  obtain rfl:=c7 l;have g:(ID z).length=z.cps.size:=by unfold ID;simp
  refine .inr (.inr ⟨z,gL,h _ ⟨λi H _ e=>by rw[g]at e;exact e,λi H _ e=>by rw[g]at e;exact e,λi H I y L _ _ e j=>?_⟩⟩);refine È j λw c k u=>?_;subst w u;refine⟨L2.bF.refl _,.str ⟨#[c]⟩,?_,.str _⟩;unfold ID;rw[aO];have:z.cps.toList[i]?=wz c:=by simpa using k
  rw[this];rfl
 |_=>cases l
def eX(f:fP X e W):T9 X tg e (Ct W):=by
 refine Â f λs i m=>?_;refine⟨_,Ws i,λB O H I C G Q R o h k=>m B O H I C G _ _ o h λd x T p l j=>?_⟩;refine Â j λr g q=>?_;exact aDv l g bX λJ n=>k r J T p n q
noncomputable def fA(n:Nat):List D:=(gA n).map λ(k:Nat)=>bW (k:Int)
def Vl(t:AT):IT:=λG Q=>t G λd=>∃n,d=[.int n]/\-(2^62)<=n/\n<2^62/\Q (fA n.toNat)
def tS{e t}(m:yA X [e] t)(v:∀{Y},PA X [e] Y->PI X tg (.Call (.Name "range" p) [e] [] p') (Ec Y)):T9 X tg (.Call (.Name "range" p) [e] [] p') (Vl t):=by
 refine Â m λF s z=>?_;refine⟨_,v s,λB O H I C G Q R o h k=>z B O H I C G _ _ o h λE J T A f w=>?_⟩;refine Ó w λn u j l q=>?_;subst u
 cases f with
 |cons f x=>
  cases x;cases f;refine⟨n,gL,j,l,k (fA n.toNat) _ T A ?_ q⟩;have d:(fA n.toNat).length=n.toNat:=by unfold fA;simp
  refine⟨λi H _ e=>by rw[d]at e;exact e,λi H _ e=>by rw[d]at e;exact e,λi H I y L _ _ e r=>?_⟩;refine Ä r λu c=>?_;subst u c;have g:(0:Int)+(i:Int)=(i:Int):=by lia
  rw[g];rw[d]at e;refine⟨L2.bF.refl _,.int i,?_,.int _⟩;unfold fA;rw[aO,lF e];rfl
def YA(j:IT)(g:GT)(Z:zW):zW:=λf G=>j G λi=>∃P:Nat->List Sl->Prop,P 0 G /\
 (∀k x d,i[k]?=wz x->P k d->g x d λh=>Z { f with nx:=P (k+1),ct:=P (k+1),bk:=f.nx } h)/\∀d,P i.length d->f.nx d
def XP{iter Z}(he:T9 X tg iter ti)(hg:OX X tg g)(hb:xZ X body Z)
  (pf:∀{wi S bv},PI X tg iter wi->PG X tg S->DP X body bv->PS X (.For tg iter body [] pos) (Bd wi S bv)):EI X (.For tg iter body [] pos) (YA ti g Z):=by
 refine Â he λve pe re=>?_;refine Â hg λS pg rg=>?_;refine Â hb λvb pb rb=>?_;refine⟨_,pf pe pg pb,λB O H I C G DT DV o h f=>re B O H I C G _ _ o h λF J T s1 rj q1=>?_⟩;refine Å q1 λP h0 hs hd=>?_;refine⟨λi m n L=>m=F.length-i/\i<=F.length/\∃k d,Ok X.K B O L k d n/\bF (ê T I) (ê L k)/\P i d,⟨_,gL,dA _,I,C,o.grow s1,L2.bF.refl _,h0⟩,?_⟩;rintro i m n L ⟨rfl,lj,k,d,o',Q,p'⟩;have sH:=Q.trans bX;have f':=f.later ((bR s1).trans Q);by_cases q:i<F.length
 ·refine .inr ⟨rj.go i L sH q,λM U=>∃w p,Ok X.K B O U w p M/\bF (ê T I) (ê U w)/\P (i+1) p,λM U z=>⟨F.length-(i+1),eH,gL,q,z⟩,λy U iw=>?_⟩;refine È (rj.yld i L k y U o'.live Q q iw) λs2 dx hx rx=>?_;have s:=f'.later (bR s2);have A:=Q.trans (bR s2);refine rg B O U k d n dx y _ _ (o'.grow s2) rx (hs i dx d hx p') λN kf o3 _ q3=>?_;exact rb B O U k N kf _ _ o3 q3 ⟨λR l j r v E x=>⟨l,j,v,A.trans E,x⟩,λR l j r v E x=>s.nx R l j r v E x,λR l j r v E x=>⟨l,j,v,A.trans E,x⟩,s.rt,s.ro,s.rp,s.rq,s.xb⟩
 ·obtain rfl:i=F.length:=by omega
  exact .inl ⟨rj.stop _ L sH (aP _),f'.nx L k d n o' (L2.bF.refl _) (hd d p')⟩
noncomputable def JU(G:List Sl):Option Nat->Sl
|none=>.un
|some j=>match G[j]? with | some (.val d)=>.val d | _=>.un
noncomputable def jZ(d:List (Option Nat))(G:List Sl):List Sl:=d.map (JU G)
def V5{G}(h:JU G q=.val d):∃j,q=wz j/\G[j]?=wz (.val d):=by
 cases q with
 |none=>cases h
 |some j=>
  refine⟨j,gL,?_⟩;unfold JU at h;lia
def V6{G}(g:∀d,s≠.val d)(f:s≠.un):JU G q≠s:=λh=>by
 cases q with
 |none=>exact f h.symm
 |some j=>
  unfold JU at h;grind
def xE(d:List (Option Nat))(G:List Sl):wC (jZ d G):=λi s j g h=>by
 unfold jZ at h;rw[aO]at h
 cases f:d[i]? with
 |none=>grind
 |some q=>
  rw[f]at h;exact V6 j g (c7 h)
def Ok.blk(o:Ok K B O H I C G)(fr:List (Option Nat)):Ok K B O H I (jZ fr C) (A4 fr G) where
 base:=o.base
 sub:=o.sub
 live:=o.live
 len:=by unfold jZ A4;simp
 val:=λi d h=>by
  unfold jZ at h;rw[aO]at h
  cases hf:fr[i]? with
  |none=>rw[hf]at h;cases h
  |some q=>
   rw[hf]at h;refine Â (V5 (c7 h)) λj z e=>?_;subst z;refine Â (o.val j d e) λv h1 h2=>?_;refine⟨v,?_,h2⟩;unfold A4;rw[aO,hf];simp[h1]
 own:=λi ts h=>b9 h ((xE fr C).own i ts)
 dis:=λi j ts us p h=>b9 h ((xE fr C).own i ts)
 dc:=λi hs kvs h=>b9 h ((xE fr C).dic i hs kvs)
def Ok.adopt(o:Ok K B O H I C G){p:à}{u}(f:H p=wy)(w:autoParam (yw u=false) zzz._auto_1):Ok K B O (eS H p u) (p::I) C G:=by
 have k:ê (eS H p u) (p::I)=ê H I:=oS f;refine⟨o.base.trans (dN f),λq l=>aE _ (o.sub q l),λq l=>?_,o.len,λi d h=>by rw[k];exact o.val i d h,λi x h=>?_,o.dis,o.dc.to (λj E kvs h=>⟨h,gL⟩) (λq A a b _=>⟨aE _ a,bZ λz=>by lia⟩) (λq A _ _ a b=>⟨a,b⟩) (by rw[k];exact L2.bF.refl _)⟩
 ·by_cases e:q=p
  ·subst e;rw[bU];exact⟨_,gL,w⟩
  ·rw[bZ e];rcases aQ.mp l with z | z
   ·lia
   ·exact o.live q z
 ·rw[k];refine í (o.own i x h) λq y m n r s g v=>?_;exact⟨q,y,m,aE _ n,r,s,by rw[bZ λz=>by rw[z,f]at g;cases g];exact g,v⟩
def Ok.aside(o:Ok K B O H I C G){q:à}{u}(hp:q∈I)(hB:B q=wy)(hn:wC C)(hu:autoParam (yw u=false) zzz._auto_1):Ok K B O (eS H q u) I C G where
 base:=λb w e=>by
  rw[bZ λz=>by lia];exact o.base b w e
 sub:=o.sub
 live:=λp la=>by
  by_cases e:p=q
  ·subst e;rw[bU];exact⟨_,gL,hu⟩
  ·rw[bZ e];exact o.live p la
 len:=o.len
 val:=λi d h=>by rw[fS hp];exact o.val i d h
 own:=λi ts h=>b9 h (hn.own i ts)
 dis:=λi j ts us p h=>b9 h (hn.own i ts)
 dc:=λi hs kvs h=>b9 h (hn.dic i hs kvs)
def HD(X:Cx)(d:List æ)(t:yN):Prop:=∃g,UA X d g/\∀B O H I C G Q f,Ok X.K B O H I C G->t C Q ->
 (∀b L,bF H L->Q b->f b L)->g G H f
def DA:yN:=λ_ Q=>Q wx
def gQ:HD X [] DA:=⟨_,aD5,λ_ _ H _ _ _ _ _ _ h k=>k _ H (L2.bF.refl H) h⟩
def F4{t}(h:ML X e t):HD X [e] t:=by
 refine Â h λv p r=>?_;exact⟨_,aD4 p,r⟩
def WR(j:List (Option Nat))(l:IT)(g:GT)(m:yN)(W:ET):ET:=λG Q=>l G λi=>i.length<=100000/\∃P:Nat->List Sl->List D->Prop,P 0 (jZ j G) [] /\
 (∀k x d h,i[k]?=wz x->P k d h->g x d λf=>m f λb=>if b=wx then W f λy=>P (k+1) f (h++[y])else P (k+1) f h)/\∀d h,P i.length d h->Q (.list h)
def Iz(j:List (Option Nat))(g:GT)(l:yN)(W:ET)(i:List D)(G:List Sl)(Q:List D->Prop):Prop:=i.length<=100000/\∃P:Nat->List Sl->List D->Prop,P 0 (jZ j G) [] /\
 (∀k x d h,i[k]?=wz x->P k d h->g x d λf=>l f λb=>if b=wx then W f λy=>P (k+1) f (h++[y])else P (k+1) f h)/\∀d h,P i.length d h->Q h
def Ic(N:List (Option Nat)){W}(s:∀b,OX (blk X scope N' b) tg g/\HD (blk X scope N' b) ifs tt/\fP (blk X scope N' b) elt W) :
  ∃gv vt ve,(∀b,PG (blk X scope N' b) tg (gv b)/\UA (blk X scope N' b) ifs (vt b)/\PE (blk X scope N' b) elt (ve b))/\∀{B O}{T:Hp}{I C G}{Q:List D->Prop}{QV:VK}{A J},Ok X.K B O T I C G->aLo X.K (ê T I) A J->Iz N g tt W A C Q ->
   (∀n p xs L,bF T L->T p=wy->L p=wz (.lst xs)->Reps X.K (ê L (p::I)) n xs->Q n->QV (.ref p) L)->hG N (λ_ H R=>R J H) gv vt ve G T QV:=by
 refine⟨λb=>av (s b).1,λb=>av (s b).2.1,λb=>av (s b).2.2,λb=>⟨(j0 (s b).1).1,(j0 (s b).2.1).1,(j0 (s b).2.2).1⟩,?_⟩;intro B O T I C G Q QV A J o rj q1 k bp f h;refine õ q1 λhz P h0 hs hd=>?_
 have F:B f=none:=by
  cases q:B f with
  |none=>rfl
  |some u=>rw[o.base f u q]at h;cases h
 refine⟨λi m M L=>m=A.length-i/\i<=A.length/\∃j n E,Ok X.K B O L (f::I) j M/\wC j/\L f=wz (.lst E)/\n.length<=i/\Reps X.K (ê L (f::I)) n E/\bF (ê T I) (ê L (f::I))/\bF T L/\P i j n,
  ⟨_,gL,dA _,jZ N C,[],[],(o.blk N).adopt h,xE N C,bU,aP _,.nil,by rw[oS h];exact L2.bF.refl _,dN h,h0⟩,?_⟩
 rintro i m M L ⟨rfl,lj,j,n,E,o',n',ha,hl,hr,S,sF,p'⟩;have hL:bN=2^24:=rfl;by_cases w:i<A.length
 ·refine .inr ⟨rj.go i L (S.trans bX) w,λy U hy=>?_⟩;refine È (rj.yld i L (f::I) y U o'.live S w hy) λs2 dx hx rx=>?_;refine((j0 (s bp).1).2) B O U (f::I) j M dx y _ _ (o'.grow s2) rx (hs i dx j n hx p') λl kf o3 n3 q3=>?_;refine((j0 (s bp).2.1).2) B O U (f::I) l kf _ _ o3 q3 λb H4 s4 q4=>?_;have r:=s2.trans s4
  cases b with
  |false=>
   exact⟨A.length-(i+1),eH,gL,w,l,n,E,o3.grow s4,n3 n',r _ _ ha,eH,hr.same (bR r),S.trans (bR r),sF.trans r,q4⟩
  |true=>
   refine((j0 (s bp).2.2).2) B O H4 (f::I) l kf _ _ (o3.grow s4) q4 λd v H5 s5 r5 q5=>?_;have x:=r.trans s5;have hm:ê (eS H5 f (.lst (E++[v]))) (f::I)=ê H5 (f::I):=fS (aM ..);refine⟨E,x _ _ ha,by rw[<- hr.length];lia,A.length-(i+1),eH,gL,w,l,n++[d],E++[v],((o3.grow s4).grow s5).aside (aM ..) F (n3 n'),n3 n',bU,by rw[aR,qL];lia,?_,?_,?_,q5⟩
   ·rw[hm];exact(hr.same (bR x)).append (.cons r5 .nil)
   ·rw[hm];exact S.trans (bR x)
   ·intro b u e;rw[bZ (λz=>by rw[z,h]at e;cases e)];exact(sF.trans x) b u e
 ·obtain rfl:i=A.length:=by lia
  exact .inl ⟨rj.stop _ L (S.trans bX) (aP _),k n f E L sF h ha hr (hd j n p')⟩
def YJ{K}{H L:Hp}{I}{p:à}(live:∀q∈I,BM (H q))(d:H p=wy)(g:L p=wz (.lst xs))(rs:Reps K (ê L (p::I)) ds xs):gW K (ê L I) (.list ds) (.ref p):=
 .list (pE.of (lN (jA live d) g)) (rs.same (gO λq f=>aE _ f))
def Ib{iter W}(w:T9 X tg iter ti)
  (s:∀b,OX (blk X scope N' b) tg g/\HD (blk X scope N' b) ifs tt/\fP (blk X scope N' b) elt W) {M:(TE)->Prop}
  (fin:∀{n}{i:BP->TG}{m:BP->TT}{l:BP->TE},PI X tg iter n->(∀b,PG (blk X scope N' b) tg (i b)/\UA (blk X scope N' b) ifs (m b)/\PE (blk X scope N' b) elt (l b))->M (hG fr n i m l)) :
  ∃v,M v/\∀B O H I C G Q f,Ok X.K B O H I C G->WR fr ti g tt W C Q ->
   (∀d v L,bF H L->gW X.K (ê L I) d v->Q d->f v L)->v G H f:=by
 refine Â w λn z E=>?_;refine Ï (Ic fr s) λi m l p r=>?_;exact⟨_,fin z p,λB O H I C G Q f o h k=>E B O H I C G _ _ o h λR J T j F A=>r (o.grow j) F A λP p S L N x y rs q=>k _ _ L (j.trans N) (YJ (o.grow j).live x y rs) q⟩
def Me{iter W}(j:T9 X tg iter ti)
  (i:∀b,OX (blk X scope N' b) tg g/\HD (blk X scope N' b) ifs tt/\fP (blk X scope N' b) elt W)
  (k:∀{wi}{d:BP->TG}{h:BP->TT}{f:BP->TE},PI X tg iter wi->(∀b,PG (blk X scope N' b) tg (d b)/\UA (blk X scope N' b) ifs (h b)/\PE (blk X scope N' b) elt (f b))->PE X (.ListComp elt [⟨tg,iter,ifs,0⟩] scope pos) (hG fr wi d h f)) :
  fP X (.ListComp elt [⟨tg,iter,ifs,0⟩] scope pos) (WR fr ti g tt W):=Ib j i k
def mQ{i:Nat}{iter W}(q:T9 X tg iter ti)
  (n:∀b,OX (blk X scope N' b) tg g/\HD (blk X scope N' b) ifs tt/\fP (blk X scope N' b) elt W)
  (s:∀{wi}{j:BP->TG}{m:BP->TT}{l:BP->TE},PI X tg iter wi->(∀b,PG (blk X scope N' b) tg (j b)/\UA (blk X scope N' b) ifs (m b)/\PE (blk X scope N' b) elt (l b)) ->
   PS X (.Assign [.Name x px] (.ListComp elt [⟨tg,iter,ifs,0⟩] scope pos) spos) (xT (hG fr wi j m l) (nD i))) :
  EI X (.Assign [.Name x px] (.ListComp elt [⟨tg,iter,ifs,0⟩] scope pos) spos) (KP i (WR fr ti g tt W)):=by
 refine Â (Ib (M:=λv=>PS X (.Assign [.Name x px] (.ListComp elt [⟨tg,iter,ifs,0⟩] scope pos) spos) (xT v (nD i))) q n s) λv p r=>?_;refine⟨_,p,λB O H I C G z A o h f=>r B O H I C G _ _ o h λd x L k y w=>?_⟩;exact f.nx L I _ _ ((o.grow k).set y) (bR k) w
noncomputable def kT(N:List â)(d:List D):List Sl:=d.map Sl.val++yQ (N.length-d.length) .un
def rS(live:∀p∈I,BM (H p))(r:Reps K (ê H I) ds vs):Ok K H I H I (kT N ds) (L2.oQ N vs):=by
 have k:=r.length;refine⟨L2.bF.refl _,λ_ h=>h,live,?_,λi d h=>?_,λi n h=>?_,λi j n q p h=>?_,λi o kvs h=>?_⟩
 ·unfold kT L2.oQ;simp[k]
 ·unfold kT at h;by_cases f:i<ds.length
  ·rw[eQ (by grind),aO]at h
   cases hd:ds[i]? with
   |none=>grind
   |some g=>
    rw[hd]at h;cases h;refine Â (r.get hd) λv l m=>?_;refine⟨v,?_,m⟩;unfold L2.oQ;grind
  grind
 ·unfold kT at h;grind
 ·unfold kT at h;grind
 ·unfold kT at h;grind
def qC{mg:â->Option á}{st}{f:à}{N pn:List â}{k:Nat}{n:mO}(F:OZ K x qual st f fd)(S:bS N pn (aV st))
  (l:∀{j}{A:e6}{outer}{s:ã}{H E},iF k (A.deeper (i7 qual (aV st) s.heap.objs.size f j))->N.Nodup->∀(i:List D)(Q:D->Prop),n i Q ->
   ∃t,xZ (sV sC P w K mg base N qual (aV st) f j A outer s H E).nox (lO st) t/\t { nx:=λ_=>Q .none,rt:=Q } (kT N i)) (len:autoParam (∀i Q,n i Q->i.length=pn.length) zzm._auto_1):nG P w K mg base sC (k+1) f fd pn (mS K n):=by
 refine F.ok S (λvs H Q E h=>?_) λj A outer s H vs Q E z h=>?_
 ·refine ý h λI i m _ r q _=>?_;rw[<- r.length];exact len i m q
 ·refine ý h λI i m live r q k=>?_;obtain⟨t,⟨ts,p,rd⟩,h⟩:=l z S.nd i m q;refine⟨ts,p,rd H I H I _ _ _ _ (rS live r) h ⟨λL M y v4 J o g=>?_,λ_ _ _ _ _ _ g=>g.elim,λ_ _ _ _ _ _ g=>g.elim,λd v L o R g=>k d v L o R g,λ_ _ _ _ _ _ _ _ _ g=>g.elim,λ_ _ _ _ _ _ _ _ _ _ _ _ _ _ _ _ _ _ g=>g.elim,λ_ _ _ _ _ _ _ _ _ _ _ _ _ _ g=>g.elim,e7⟩⟩;exact k _ _ L J.base .none g
end
end TL
namespace HT
section
variable{prog:cO}{w:f8}{A:e6}{E:á->ã->Prop}{s:ã}
def getItem_tuple_all{t g:à}{a:Array á}{lo}{Q:á->ã->Prop}(b:jh s.heap t a)(f:s.heap.IsSliceOf g vl vu .none)(j:IsPart vl lo)(k:IsPart vu hi)
  (hw:sIx a.size 0 lo=0/\sIx a.size a.size hi=a.size) (h:Q (.ref t) s):å (ä prog w) A (y8 (.ref t) (.ref g)) Q E s:=by
 refine Å (id f) λos e d i=>?_;unfold y8
 try with_reducible refine n6 ?_
 first | refine aG (bB ?_) | skip
 refine aG (kc b.typeIs cS ?_)
 refine aG (j2 b.typeIs j4
  (mG j4 b.typeIs ij ?_ (iq _ _)))
 show å _ _ (au (.ref t) >>= _) _ _ s;refine aG (tupleItemsOf_ b ?_);refine aG (gn (⟨os,e,d⟩) ?_);rw[b7 cS];refine aG (tM f j k ?_)
 have c:(((sIx a.size 0 lo:Nat):Int)==0&&(1:Int)==1&&(sIx a.size a.size hi-sIx a.size 0 lo)==a.size)=true:=by
  rw[hw.1,hw.2];simp
 show å _ _ (if(((sIx a.size 0 lo:Nat):Int)==0&&(1:Int)==1&&(sIx a.size a.size hi-sIx a.size 0 lo)==a.size)=wx then _ else _) _ _ s;rw[b7 c];refine aG (aG (gn b.typeIs (bB ?_)));rw[b7 cS]
 first
  |exact aG (o8 (aG (bB (bB ⟨_,gL,bB h⟩))))
  |exact aG (o8 (bB ⟨_,gL,bB h⟩))
  |exact aG (o8 (aG (bB ⟨_,gL,bB h⟩)))
end
end HT
namespace L2
section
variable{X:Cx}
def Dd:V->Option Int->Option Int->Hp->VK->Prop:=λx lo a H Q=>∃z,x=.str z/\z.length<=bN/\Q (.str (Txt.slice z lo a)) H
def Wy:gV X Dd:=by
 intro b s p H x v w y lo a r Q I o c n f h;refine Å h λz Z m q=>?_;subst Z;refine Ã o λt Z=>?_;subst Z;refine⟨"str",_,PySem.F.slot_str_getitem.lookup,am _ _ _,?_⟩
 have fin:∀lo a:Option Int,Q (.str (Txt.slice z lo a)) H->(Txt.slice z lo a).length<=bN/\∀(d:Tok)(k:Nat),EP X b p Q (.str (Txt.slice z lo a) d) { s with toks:=k }:=λlo a q=>
  ⟨bK (Txt.slice_le z _ _) m,λd k=>⟨.str _,H,I.tok k,⟨d,gL⟩,q⟩⟩
 cases n with
 |none=>
  cases f with
  |none=>exact q9 (l:=wy) (u:=wy) (st:=wy) c gL (ar (fin wy wy q))
  |int j e=>exact q9 (l:=wy) (u:=wz (j,e)) (st:=wy) c gL (ar (fin wy (wz j) q))
 |int i g=>
  cases f with
  |none=>exact q9 (l:=wz (i,g)) (u:=wy) (st:=wy) c gL (ar (fin (wz i) wy q))
  |int j e=>exact q9 (l:=wz (i,g)) (u:=wz (j,e)) (st:=wy) c gL (ar (fin (wz i) (wz j) q))
def Fw(K:aH):V->Option Int->Option Int->Hp->VK->Prop:=λx lo c H Q=>∃a b,x=.ref a/\tI K H a b /\
 ((HT.sIx b.length 0 lo=0/\HT.sIx b.length b.length c=b.length)->Q (.ref a) H)/\(¬(HT.sIx b.length 0 lo=0/\HT.sIx b.length b.length c=b.length)->∀p,H p=wy->Q (.ref p) (eS H p (.tup (QZ b lo c))))
def aDo:gV X (Fw X.K):=by
 intro d s u H x v q t lo f p Q I m g k l h;refine Ñ h λa b z j n o=>?_;subst z;by_cases hw:HT.sIx b.length 0 lo=0/\HT.sIx b.length b.length f=b.length
 ·cases m;refine Å (I.tuple j) λe r i w=>?_;have c:e.toArray.size=b.length:=by rw[bL];exact r.length.symm
  exact⟨"tuple",_,PyProof.Rows.slot_tuple_getitem.lookup,i.typeIs,HT.getItem_tuple_all i g k l (by lia) ⟨.ref a,H,I,gL,n hw⟩⟩
 ·exact Wz d s u H (.ref a) v q t lo f p Q I m g k l ⟨a,b,gL,j,hw,o hw⟩
def YN(K:aH):V->Option Int->Option Int->Hp->VK->Prop:=λx lo a H Q=>Dc K x lo a H Q\/Fw K x lo a H Q\/Dd x lo a H Q
def gB:gV X (YN X.K):=aDp.or (aDo.or Wy)
def YS(K:aH):R2:=λx y H Q=>∃a b c d,x=.ref a/\y=.ref b/\tI K H a c/\tI K H b d/\c.length+d.length<=bN /\
 (c=[]->Q (.ref b) H)/\(c≠[]->d=[]->Q (.ref a) H)/\(c≠[]->d≠[]->∀p,H p=wy->Q (.ref p) (eS H p (.tup (c++d))))
def ZD:pF X (j8 .Add) (YS X.K):=by
 intro f s R H x y v u Q I r t h;refine ï h λa b w P Z Y p hb C J L M=>?_;subst Z Y;by_cases d:w=[]
 ·cases r;cases t;refine Å (I.tuple p) λk N F _=>?_;refine Å (I.tuple hb) λe S G _=>?_;obtain⟨⟨z,A,o,O⟩,q,B,n,hd⟩:=id F;obtain⟨⟨m,g,data2,l⟩,c,i,E,j⟩:=id G;subst B hd i j;exact cq ⟨_,q,gL⟩ ⟨_,c,gL⟩ dk fk vF uB (tG _ _) (tuple_addW0 a b k.toArray e.toArray n E A g O l (by simp[(N.nil_iff.mpr d)])) ⟨q,c,⟨.ref b,H,I,gL,J d⟩⟩
 ·exact Zo f s R H (.ref a) (.ref b) v u Q I r t ⟨a,b,w,P,gL,gL,p,hb,d,C,L d,M d⟩
def Fl(K:aH):R2:=λx y H Q=>∃l b a c,x=.ref l/\y=.ref b/\pE K H l a/\pE K H b c/\a.length+c.length<=bN/\∀p,H p=wy->Q (.ref p) (eS H p (.lst (a++c)))
def K5:pF X (j8 .Add) (Fl X.K):=by
 intro t s S H x y v u Q I M N h;refine þ h λl b P R Z Y E hb r q=>?_;subst Z Y;cases M;cases N;obtain⟨c,w,⟨⟨A,B,m,O⟩,n,p,G,J,hd⟩,_⟩:=I.list E;obtain⟨a,z,⟨⟨k,e,data2,j⟩,L,d,f,o,g⟩,_⟩:=I.list hb;subst G hd f g;have i:c.toArray.size+a.toArray.size<=bN:=by rw[bL,bL,<- w.length,<- z.length];exact r
 refine cq ⟨_,p,gL⟩ ⟨_,d,gL⟩ noFill_list_add seq_list_add PySem.F.slot_list_add PySem.F.entry_list_add (PySem.F.args_list_add_2 _ _) (list_addW l b c.toArray a.toArray n L B e O j i) ⟨p,d,?_⟩;have C:c.toArray++a.toArray=(c++a).toArray:=by simp
 rw[C];exact⟨.ref _,_,I.lnew (w.append z) (by rw[aR];exact r),gL,q _ I.fresh⟩
def R8(K:aH):R2:=λx y H Q=>(YR λi j=>.int (i+j)) x y H Q\/(∃i j,x=.str i/\y=.str j/\i.length+j.length<=bN/\Q (.str (i++j)) H)\/YS K x y H Q\/Fl K x y H Q
def bE:pF X (j8 .Add) (R8 X.K):=Wm.or (P2.or (ZD.or K5))
def R6:R2:=λx y H Q=>(rI RF λi j=>.int (i*j)) x y H Q\/∃z n,x=.str z/\y=.int n/\z.length<=1000/\0<=n/\n<=1000/\Q (.str (Txt.mul z n)) H
def P0:pF X (j8 .Mult) (λx y H Q=>∃z n,x=.str z/\y=.int n/\z.length<=1000/\0<=n/\n<=1000/\Q (.str (Txt.mul z n)) H):=by
 intro c s m H x y v u Q I e f h;refine í h λz n w r d g i q=>?_;subst w r;refine Ã e λt w=>?_;subst w;refine Ã f λl w=>?_;subst w;refine SB.mul ⟨by simp;lia,λa _=>?_,λ_ _=>?_⟩ λb k=>⟨.str _,H,I.tok k,⟨b,gL⟩,q⟩
 ·have:(1000:Int)<=(2^63-1) / n:=by
   rw[Int.le_ediv_iff_mul_le eH];lia
  lia
 ·have:z.length*n.toNat<=1000*1000:=nH d eH;unfold Builtin.Str.tooLong;have j:bN=2^24:=rfl;simp only[j5];lia
def gD:pF X (j8 .Mult) R6:=ZC.or P0
def BE(C:X.calm=wx):lV X (.builtin "all") (λx H Q=>∃(p:à)(bs:List Bool),x=[.ref p]/\pE X.K H p (bs.map V.bl)/\Q (.bl (bs.all id)) H):=by
 intro t s U H x S Q I r h;refine Í h λp bs Z G q=>?_;subst Z;refine Â (nI r) λu Z J=>?_;subst Z;cases J;refine Å (I.list G) λd l w O=>?_
 have k:p≠s.heap.objs.size:=by
  refine Â w.isList λo F _=>?_;exact cU (bC F)
 have j:=w.isList;refine call_all_walk (k7 j ?_);refine⟨_,_,_,_,_,_,λi=>(bs[i]?).getD wx,gL,fh (A:=X.A.in1) (I.ok.hd C) _ p k d.toArray,⟨⟨_,bA _ gL,gL,gL⟩,j.push _⟩,λi v P M L B c=>?_,λN R E=>?_⟩
 ·have n:d[i]?=wz v:=by simpa using B
  have a:=l.length;have f:=(aJ.mp n).1;have hb:i<bs.length:=by rw[aC]at a;lia
  refine Â (l.get (by rw[aO,aL hb];rfl)) λT m y=>?_;rw[n]at m;cases m;cases y;refine g7 ?_;dsimp only at c;rw[aL hb]at c;exact c
 ·have e:(gA d.toArray.size).all (λi=>(bs[i]?).getD wx)=bs.all id:=by
   have a:=l.length;rw[aC]at a;rw[bL,<- a];rw[gE,gG,gG];constructor
   ·intro h b hb;obtain⟨i,f,rfl⟩:=yS.mp hb;have:=h i (pJ.mpr f);rw[aL f]at this;exact this
   ·intro h i f;have g:=pJ.mp f;rw[aL g];exact h _ (iY g)
  rw[e];refine⟨.bl _,H,I.kept λb o e=>E b o ?_ (aK _ e),gL,q⟩;intro z;have:b=s.heap.objs.size:=by simpa using z
  exact b9 (bC e) (by rw[this];exact fF _)
def Ap:R2:=λx y H Q=>∃b,y=.bl b/\Q (.bl (decide (x=.bl b))) H
def KY:R2:=λx y H Q=>∃b,y=.bl b/\Q (.bl (!decide (x=.bl b))) H
def Ee{b:Bool}(r:fK x v):plainIs v (.bool b)=wx/\(v==ck b)=decide (x=.bl b):=by
 cases x with
 |non=>cases r;exact⟨gL,gL⟩
 |bl c=>cases r;cases b<;>cases c<;>exact⟨gL,gL⟩
 |int _=>refine Ã r λt z=>?_;subst z;exact⟨gL,gL⟩
 |str _=>refine Ã r λt z=>?_;subst z;exact⟨gL,gL⟩
 |byt _=>refine Ã r λt z=>?_;subst z;exact⟨gL,gL⟩
 |flt _=>refine Ã r λt z=>?_;subst z;exact⟨gL,gL⟩
 |ref _=>cases r;exact⟨gL,gL⟩
 |ty _=>cases r;exact⟨gL,gL⟩
def U2:pF X (d6 .IsNot) KY:=by
 intro a s g H x y v u Q I e f h;refine Â h λb z q=>?_;subst z;cases f;obtain⟨c,d⟩:=Ee e;refine wpAny_isNot_plain c ?_;rw[d];exact⟨.bl _,H,I,gL,q⟩
def Wn:pF X (d6 .Is) Ap:=by
 intro a s g H x y v u Q I e f h;refine Â h λb z q=>?_;subst z;cases f;obtain⟨c,d⟩:=Ee e;refine wpAny_is_plain c ?_;rw[d];exact⟨.bl _,H,I,gL,q⟩
theorem KF:∀{a:List â}{us},fN (a.map V.str) us->StrsAre us a
|[],_,r=>by rw[jC]at r;cases r;exact .nil
|y::a,us,r=>by
 rw[aX]at r
 cases r with
 |cons b c=>
  obtain⟨t,rfl⟩:=b;exact .cons y t (KF c)
def mK:OY X "str.join" (λx c H Q=>∃z p a,x=.str z/\c=[.ref p]/\pE X.K H p (a.map V.str)/\(a.map (·.length)).sum+a.length*z.length<=16777216/\Q (.str (Txt.join z a)) H):=by
 intro b s o H x c v n Q I l r h;refine Ú h λz p a y w d e q=>?_;subst y w;refine Ã l λt y=>?_;subst y;refine Â (nI r) λu y i=>?_;subst y;cases i;refine Å (I.list d) λf j g _=>?_;exact PyProof.Rows.join_list g.isList (by simpa using KF j) e λm k=>⟨.str _,H,I.tok k,⟨m,gL⟩,q⟩
def O6(K:aH)(H:Hp):V->String->Prop
|.non,T=>T="NoneType"
|.bl _,T=>T="bool"
|.int _,T=>T="int"
|.str _,T=>T="str"
|.ref p,T=>(T="list"/\∃a,pE K H p a)\/(T="tuple"/\∃a,tI K H p a)\/(T="list"/\∃P,H p=wz (.ext P)/\∀h,P h->∃o,h.get? p=wz o/\o.cls=.type "list")
|_,_=>False
def Yy{E:á->ã->Prop}{Q:á->ã->Prop}{b:Bool}(I:dL X pins σ H s)(g:fK x u)(ty:O6 X.K H x T)
  (e:eY X.K (.type T) c=wz b) (h:∀m,Q (.bool b) { s with toks:=m }):å (ä X.prog X.w) A (call (.builtin "isinstance") [u,c]) Q E s:=by
 cases x with
 |non=>cases (show T="NoneType" from ty);exact xI I g .non e h
 |bl y=>cases (show T="bool" from ty);exact xI I g (.bl y) e h
 |int i=>cases (show T="int" from ty);exact xI I g (.int i) e h
 |str y=>cases (show T="str" from ty);exact xI I g (.str y) e h
 |ref p=>
  cases g;rcases ty with⟨rfl,q,f⟩ | ⟨rfl,q,f⟩ | ⟨rfl,P,f,l⟩
  ·refine Å (I.list f) λj _ k _=>?_;refine Í k λo n d a _=>?_;exact eO sR I.kIn ⟨o,d,a⟩ e (λz=>nomatch z) h
  ·refine Å (I.tuple f) λj _ k _=>?_;refine Å k λo d a _=>?_;exact eO RG I.kIn ⟨o,d,a⟩ e (λz=>nomatch z) h
  ·refine Â (l _ (I.hok p _ f).1) λo d a=>?_;exact eO sR I.kIn ⟨o,d,a⟩ e (λz=>nomatch z) h
 |_=>exact h9 ty
end
end L2
namespace TL
open L2
variable{K:aH}{H J L N:Hp}{B:Hp}{M m:List à}{G:List Sl}{F:L2.St}
section
variable{X:Cx}{a b c e:æ}{O:List æ}{R P:ET}{pos p:Pos}
def fI(C:Int->Int->Prop)(g:Int->Int->Int):D->D->(D->Prop)->Prop
|.int i,.int j,Q=>C i j/\Q (.int (g i j))
|_,_,_=>False
def Jh(g:Int->Int->Int):D->D->(D->Prop)->Prop
|.int i,.int j,Q=>Q (.int (g i j))
|_,_,_=>False
def Ji(g:Int->Int->Bool):D->D->(D->Prop)->Prop
|.int i,.int j,Q=>Q (.bool (g i j))
|_,_,_=>False
def MH{C:Int->Int->Prop}{g:Int->Int->Int}:BJ X (rI C λi j=>.int (g i j)) (fI C g):=by
 intro H m n o x y Q l live d f h k
 cases d with
 |int i=>
  cases f with
  |int j=>exact⟨i,j,gL,gL,h.1,k _ _ H (L2.bF.refl H) (.int _) h.2⟩
  |_=>exact h.elim
 |_=>exact h.elim
def NH{g:Int->Int->Int}:BJ X (YR λi j=>.int (g i j)) (Jh g):=by
 intro H m n o x y Q l live d f h k
 cases d with
 |int i=>
  cases f with
  |int j=>exact⟨i,j,gL,gL,k _ _ H (L2.bF.refl H) (.int _) h⟩
  |_=>exact h.elim
 |_=>exact h.elim
def sE{g:Int->Int->Bool}:BJ X (YR λi j=>.bl (g i j)) (Ji g):=by
 intro H m n o x y Q l live d f h k
 cases d with
 |int i=>
  cases f with
  |int j=>exact⟨i,j,gL,gL,k _ _ H (L2.bF.refl H) (.bool _) h⟩
  |_=>exact h.elim
 |_=>exact h.elim
def Am:D->D->(D->Prop)->Prop
|.int i,.int j,Q=>Q (.int (i+j))
|.str x,.str y,Q=>x.length+y.length<=100000/\Q (.str (x++y))
|.tuple x,.tuple y,Q=>x.length+y.length<=100000/\Q (.tuple (x++y))
|.list x,.list y,Q=>x.length+y.length<=100000/\Q (.list (x++y))
|_,_,_=>False
def AV{n:Nat}(h:n<=100000):n<=bN:=by have:bN=2^24:=rfl;lia
def dE:BJ X (R8 X.K) Am:=by
 intro H m s t x y Q r live q o h k
 cases q with
 |int i=>
  cases o with
  |int j=>exact .inl ⟨i,j,gL,gL,k _ _ H (L2.bF.refl H) (.int _) h⟩
  |_=>exact h.elim
 |str i=>
  cases o with
  |str j=>exact .inr (.inl ⟨i,j,gL,gL,AV h.1,k _ _ H (L2.bF.refl H) (.str _) h.2⟩)
  |_=>exact h.elim
 |tuple l d=>
  cases o with
  |tuple n f=>
   refine .inr (.inr (.inl ⟨_,_,_,_,gL,gL,bF.seqT bX l,bF.seqT bX n,AV (by rw[<- d.length,<- f.length];exact h.1),λz=>?_,λz1 z2=>?_,λz1 z2 p g=>?_⟩))
   ·subst z;cases d;exact k _ _ H (L2.bF.refl H) (.tuple n f) h.2
   ·subst z2;cases f;have e:=h.2;rw[cM]at e;exact k _ _ H (L2.bF.refl H) (.tuple l d) e
   ·exact k _ _ _ (dN g) (uO live g (d.append f)) h.2
  |_=>exact h.elim
 |list l d=>
  cases o with
  |list n f=>
   exact .inr (.inr (.inr ⟨_,_,_,_,gL,gL,L2.bF.seq bX l,L2.bF.seq bX n,AV (by rw[<- d.length,<- f.length];exact h.1),λp g=>k _ _ _ (dN g) (AL live g (d.append f)) h.2⟩))
  |_=>exact h.elim
 |_=>exact h.elim
def Ka:D->D->(D->Prop)->Prop
|.int i,.int j,Q=>RF i j/\Q (.int (i*j))
|.str z,.int n,Q=>z.length<=1000/\0<=n/\n<=1000/\Q (.str (Txt.mul z n))
|_,_,_=>False
def oR:BJ X R6 Ka:=by
 intro H m l o x y Q g live f d h k
 cases f with
 |int i=>
  cases d with
  |int j=>exact .inl ⟨i,j,gL,gL,h.1,k _ _ H (L2.bF.refl H) (.int _) h.2⟩
  |_=>exact h.elim
 |str z=>
  cases d with
  |int n=>exact .inr ⟨z,n,gL,gL,h.1,h.2.1,h.2.2.1,k _ _ H (L2.bF.refl H) (.str _) h.2.2.2⟩
  |_=>exact h.elim
 |_=>exact h.elim
noncomputable def xf:D->D->Option Bool
|.none,.none=>wz wx
|.bool x,.bool y=>wz (decide (x=y))
|.int x,.int y=>wz (decide (x=y))
|.str x,.str y=>wz (decide (x=y))
|.str _,.none | .none,.str _=>wz ww
|_,_=>wy
def Cg(x y:D)(Q:D->Prop):Prop:=match xf x y with | some c=>Q (.bool c) | none=>False
def Cf(x y:D)(Q:D->Prop):Prop:=match xf x y with | some c=>Q (.bool (!c)) | none=>False
def N0{x y:D}{u v:V}{c:Bool}(d:gW K H x u)(f:gW K H y v)(h:xf x y=wz c):Ba u v=wx/\decide (u=v)=c:=by
 cases d<;>first|(cases h;done)|(cases f<;>first|(cases h;done)|(cases h;exact⟨gL,gC⟩))
def jN:BJ X Ce Cg:=by
 intro H m d f x y Q n live j l h k;unfold Cg at h
 cases e:xf d f with
 |none=>lia
 |some c=>
  rw[e]at h;obtain⟨g,i⟩:=N0 j l e;refine⟨g,?_⟩;rw[i];exact k _ _ H (L2.bF.refl H) (.bool c) h
def U9:BJ X Cb Cf:=by
 intro H m d f x y Q n live j l h k;unfold Cf at h
 cases e:xf d f with
 |none=>lia
 |some c=>
  rw[e]at h;obtain⟨g,i⟩:=N0 j l e;refine⟨g,?_⟩;rw[i];exact k _ _ H (L2.bF.refl H) (.bool (!c)) h
noncomputable def xJ(b:Bool):D->Bool
|.bool c=>decide (c=b)
|_=>ww
theorem Reps.atI{i:Int}(r:Reps K H ds vs)(h:atI ds i=wz d):∃v,atI vs i=wz v/\gW K H d v:=by
 unfold L2.atI at h |-
 rw[<- r.length]
 cases e:WP ds.length i with
 |none=>rw[e]at h;cases h
 |some j=>
  rw[e]at h;exact r.get h
inductive Q9(ts:List D)(i:Int)(Q:D->Prop):Prop
|mk (d:D) (h:atI ts i=wz d) (k:Q d):Q9 ts i Q
def Aa(x y:D)(Q:D->Prop):Prop:=match x,y with
|.list ts,.int i=>Q9 ts i Q
|.tuple ts,.int i=>Q9 ts i Q
|.str z,.int i=>z.length<=100000/\∃c,atI z.cps.toList i=wz c/\Q (.str ⟨#[c]⟩)
|_,_=>False
def cI:BJ X (yh X.K) Aa:=by
 intro H m g t x y Q o live l n h k
 cases n with
 |int i=>
  cases l with
  |list q s=>
   obtain⟨d,e,h⟩:=h;refine Â (s.atI e) λv f r=>?_;exact .inl ⟨_,_,i,v,gL,gL,L2.bF.seq bX q,f,k _ _ H (L2.bF.refl H) r h⟩
  |tuple q s=>
   obtain⟨d,e,h⟩:=h;refine Â (s.atI e) λv f r=>?_;exact .inr (.inl ⟨_,_,i,v,gL,gL,bF.seqT bX q,f,k _ _ H (L2.bF.refl H) r h⟩)
  |str z=>
   refine È h λj c e h=>?_;exact .inr (.inr ⟨z,i,c,gL,gL,AV j,e,k _ _ H (L2.bF.refl H) (.str _) h⟩)
  |_=>exact h.elim
 |_=>cases g<;>exact h.elim
noncomputable def fY{f:Type}(d:List f)(lo g:Option Int):List f:=(d.drop (HT.sIx d.length 0 lo)).take (HT.sIx d.length d.length g-HT.sIx d.length 0 lo)
def Je(x:D)(lo d:Option Int)(Q:D->Prop):Prop:=match x with
|.list ts=>Q (.list (fY ts lo d))
|.tuple ts=>Q (.tuple (fY ts lo d))
|.str z=>z.length<=100000/\Q (.str (Txt.slice z lo d))
|_=>False
def Reps.cut(r:Reps K H ds vs)(lo d:Option Int):Reps K H (fY ds lo d) (QZ vs lo d):=by
 unfold fY QZ;rw[r.length];exact(r.drop _).take _
def mV:Ii X (YN X.K) Je:=by
 intro H m d x lo g Q j live r h k
 cases r with
 |list q s=>exact .inl ⟨_,_,gL,L2.bF.seq bX q,λp f=>k _ _ _ (dN f) (AL live f (s.cut lo g)) h⟩
 |@tuple p xs ts q s=>
  refine .inr (.inl ⟨_,_,gL,bF.seqT bX q,λz=>?_,λ_ p f=>k _ _ _ (dN f) (uO live f (s.cut lo g)) h⟩)
  have e:fY ts lo g=ts:=by
   unfold fY;rw[s.length,z.1,z.2,sJ,pK,<- s.length,eI]
  have i:Q (.tuple (fY ts lo g)):=h;rw[e]at i;exact k _ _ H (L2.bF.refl H) (.tuple q s) i
 |str z=>exact .inr (.inr ⟨z,gL,AV h.1,k _ _ H (L2.bF.refl H) (.str _) h.2⟩)
 |_=>exact h.elim
def Jg(x y:D)(Q:D->Prop):Prop:=match x,y with
|.str z,.str y=>Q (.bool (Txt.contains y z))
|.str z,.list ts=>∃d:List â,ts=d.map .str/\Q (.bool (decide (z∈d)))
|.str z,.tuple ts=>∃d:List â,ts=d.map .str/\Q (.bool (decide (z∈d)))
|_,_=>False
theorem tN:∀{d:List â}{vs},Reps K H (d.map aI) vs->vs=d.map V.str
|[],_,r=>by rw[jC]at r;cases r;rfl
|y::d,vs,r=>by
 rw[aX]at r
 cases r with
 |cons f g=>
  cases f;rw[aX,tN g]
def TC(z:â)(d:List â):ym (.str z) (d.map V.str)=decide (z∈d):=by
 unfold ym
 induction d with
 |nil=>simp
 |cons y d f=>
  rw[aX,kP,f,gE];simp only[show∀a b,oD (.str a) (.str b)=(a==b)from λ_ _=>rfl,oI,dw,c8,aQ];lia
def JJ(d:List â):(d.map V.str).all A5=true:=by
 induction d with
 |nil=>rfl
 |cons y d f=>rw[aX,MO,f];rfl
def YQ(K:aH):R2:=λx y H Q=>(∃i j,x=.str i/\y=.str j/\Q (.bl (!(j6 j i 0 j.length 1).isEmpty)) H)\/Cc K ww x y H Q
def rR:pF X (d6 .In) (YQ X.K):=IN.or U4
def P3:BJ X (YQ X.K) Jg:=by
 intro H m l f x y Q j live g i h k
 cases g with
 |str z=>
  cases i with
  |str w=>exact .inl ⟨z,w,gL,gL,k _ _ H (L2.bF.refl H) (.bool _) h⟩
  |list q s=>
   obtain⟨d,rfl,h⟩:=h;have e:=tN s;subst e;refine .inr ⟨_,_,gL,.inl (L2.bF.seq bX q),gL,JJ d,?_⟩;rw[a8 cS,TC];exact k _ _ H (L2.bF.refl H) (.bool _) h
  |tuple q s=>
   obtain⟨d,rfl,h⟩:=h;have e:=tN s;subst e;refine .inr ⟨_,_,gL,.inr (bF.seqT bX q),gL,JJ d,?_⟩;rw[a8 cS,TC];exact k _ _ H (L2.bF.refl H) (.bool _) h
  |_=>exact h.elim
 |_=>cases f<;>exact h.elim
def aWc(x y:D)(Q:D->Prop):Prop:=match x,y with
|.str z,.list ts=>∃d:List â,ts=d.map .str/\Q (.bool (!decide (z∈d)))
|.str z,.tuple ts=>∃d:List â,ts=d.map .str/\Q (.bool (!decide (z∈d)))
|_,_=>False
def Fe{r:List V->Hp->VK->Prop}{f:List D->(D->Prop)->Prop}(q:tY X r f)(n:yA X (e::O) t)(u:∀{R},PA X (e::O) R->PE X (.Call g (e::O) [] pos) (WN r R)):fP X (.Call g (e::O) [] pos) (qG f t):=by
 refine Â n λv s A=>?_;refine⟨_,u s,λB M H m G F Q j o h k=>A B M H m G F _ _ o h λl E L i z x=>?_⟩;exact q L m l E Q j (o.grow i).live z x λd v J C y w=>k d v J (i.trans C) y w
def f1(f:D->(D->Prop)->Prop):List D->(D->Prop)->Prop
|[d],Q=>f d Q
|_,_=>False
def c1{r:List V->Hp->VK->Prop}{f:D->(D->Prop)->Prop}(h:∀H m d x Q g,(∀p∈m,BM (H p))->gW X.K (ê H m) d x->f d Q ->
  (∀d v J,bF H J->gW X.K (ê J m) d v->Q d->g v J)->r [x] H g):tY X r (f1 f):=by
 intro H m n o Q g live rs i k
 cases rs with
 |nil=>exact i.elim
 |cons j l=>
  cases l with
  |nil=>exact h H m _ _ Q g live j i k
  |cons _ _=>exact i.elim
def Kv(d:D)(Q:D->Prop):Prop:=match d with
|.list ts=>Q (.int ts.length)
|.tuple ts=>Q (.int ts.length)
|.str z=>z.length<=100000/\Q (.int z.length)
|_=>False
def cJ:lV X (.builtin "len") (λf H Q=>(∃p d,f=[.ref p]/\(pE X.K H p d\/tI X.K H p d)/\Q (.int d.length) H)\/∃z,f=[.str z]/\z.length<=bN/\Q (.int z.length) H):=LW.or LV
def jB:tY X (λg H Q=>(∃p f,g=[.ref p]/\(pE X.K H p f\/tI X.K H p f)/\Q (.int f.length) H)\/∃z,g=[.str z]/\z.length<=bN/\Q (.int z.length) H) (f1 Kv):=c1 λH m d x Q i live r h k=>by
 cases r with
 |list q s=>
  refine .inl ⟨_,_,gL,.inl (L2.bF.seq bX q),?_⟩;rw[<- s.length];exact k _ _ H (L2.bF.refl H) (.int _) h
 |tuple q s=>
  refine .inl ⟨_,_,gL,.inr (bF.seqT bX q),?_⟩;rw[<- s.length];exact k _ _ H (L2.bF.refl H) (.int _) h
 |str z=>exact .inr ⟨z,gL,AV h.1,k _ _ H (L2.bF.refl H) (.int _) h.2⟩
 |_=>exact h.elim
def QR(d:D)(Q:D->Prop):Prop:=match d with
|.list ts=>Q (.tuple ts)
|.tuple ts=>Q (.tuple ts)
|_=>False
def vC:tY X (λi H Q=>∃p f,i=[.ref p]/\((pE X.K H p f/\∀l,H l=wy->Q (.ref l) (eS H l (.tup f)))\/(tI X.K H p f/\Q (.ref p) H))) (f1 QR):=c1 λH m d x Q j live r h k=>by
 cases r with
 |list q s=>exact⟨_,_,gL,.inl ⟨L2.bF.seq bX q,λl g=>k _ _ _ (dN g) (uO live g s) h⟩⟩
 |tuple q s=>exact⟨_,_,gL,.inr ⟨bF.seqT bX q,k _ _ H (L2.bF.refl H) (.tuple q s) h⟩⟩
 |_=>exact h.elim
theorem M5:∀{d:List Bool}{vs},Reps K H (d.map aLv) vs->vs=d.map V.bl
|[],_,r=>by rw[jC]at r;cases r;rfl
|y::d,vs,r=>by
 rw[aX]at r
 cases r with
 |cons f g=>
  cases f;rw[aX,M5 g]
theorem xA:∀{d:List Int}{vs},Reps K H (d.map bW) vs->vs=d.map V.int
|[],_,r=>by rw[jC]at r;cases r;rfl
|y::d,vs,r=>by
 rw[aX]at r
 cases r with
 |cons f g=>
  cases f;rw[aX,xA g]
def Cr(d:D)(Q:D->Prop):Prop:=∃bs:List Bool,d=.list (bs.map aLv)/\Q (.bool (bs.all id))
def Ey:tY X (λf H Q=>∃(p:à)(bs:List Bool),f=[.ref p]/\pE X.K H p (bs.map V.bl)/\Q (.bl (bs.all id)) H) (f1 Cr):=c1 λH m d x Q g live r h k=>by
 obtain⟨bs,rfl,h⟩:=h
 cases r with
 |list q s=>
  have e:=M5 s;subst e;exact⟨_,bs,gL,L2.bF.seq bX q,k _ _ H (L2.bF.refl H) (.bool _) h⟩
noncomputable def zm:D->String
|.none=>"NoneType"
|.bool _=>"bool"
|.int _=>"int"
|.str _=>"str"
|.list _=>"list"
|.tuple _=>"tuple"
|.dict []=>"list"
|.dict [(.none,_)]=>"list"
|.dict _=>"dict"
noncomputable def rB(T:String)(d:D):Bool:=(zm d==T)||(T=="int"&&zm d=="bool")
def LJ{i:Int}(h:T∈["int","str","list","tuple","bool"]):rB T (.dict [(.int i,x)])=false:=by
 simp only[aQ,cP,i6]at h;rcases h with rfl | rfl | rfl | rfl | rfl<;>rfl
def Al(T:String)(d:D)(Q:D->Prop):Prop:=match d with | .dict ((.str _,_)::_)=>False | d=>Q (.bool (rB T d))
def Yx{Q:D->Prop}(h:∀x y r,d≠.dict ((.str x,y)::r))(q:Al T d Q):Q (.bool (rB T d)):=by
 unfold Al at q;lia
def Jw(T:String)(P:ET):ET:=λF Q=>P F λd=>Al T d Q
def Dx(K:aH)(T:String):Prop:=∀tn∈["NoneType","bool","int","str","list","tuple"],eY K (.type tn) (.type T)=wz ((tn==T)||(T=="int"&&tn=="bool"))
def Aq(K:aH)(T:String):List V->Hp->VK->Prop:=λg H Q=>∃x b,g=[x,.ty T]/\((∃f,O6 K H x f/\eY K (.type f) (.type T)=wz b)\/(∃p C dx,x=.ref p/\H p=wz (.ext (sQ p C dx))/\(∀d,dx=wz d->∃fs,H d=wz (.xd fs))/\GQ K C/\eY K (.ref C) (.type T)=wz b))/\Q (.bl b) H
def F1{F}{H:Hp}{E:á->ã->Prop}{Q:á->ã->Prop}{p C:à}{c}{b:Bool}(I:dL X pins F H s)(q:H p=wz (.ext (sQ p C dx)))(hd:∀d,dx=wz d->∃fs,H d=wz (.xd fs))(x:GQ X.K C)
  (e:eY X.K (.ref C) c=wz b) (h:∀t,Q (.bool b) { s with toks:=t }):å (ä X.prog X.w) A (call (.builtin "isinstance") [.ref p,c]) Q E s:=by
 refine eO (NS x) I.kIn ?_ e (λz=>nomatch z) h;obtain⟨⟨o,vs,f,g,i,k⟩,_⟩:=I.hok p _ q;have j:wR o=true:=by unfold wR;rw[k]
 cases dx with
 |none=>exact⟨o,wy,f,g,j,by rw[i];trivial⟩
 |some d=>
  refine Ã (hd d gL) λfs n=>?_;obtain⟨v,⟨r,O,u,l,_⟩,_⟩:=I.hok d _ n;exact⟨o,wz r,f,g,j,by rw[i];exact l⟩
def aBl:lV X (.builtin "isinstance") (Aq X.K T):=by
 intro j s F H v t Q I r h;obtain⟨x,b,rfl,⟨o,l,f⟩ | ⟨p,C,dx,rfl,k,hd,n,f⟩,q⟩:=h
 ·refine Í (RL r) λu w z g d=>?_;subst z;cases d;exact Yy I g l f λi=>⟨.bl b,H,I.tok i,gL,q⟩
 ·refine Í (RL r) λu w z g d=>?_;subst z;cases d;cases g;exact F1 I k hd n f λi=>⟨.bl b,H,I.tok i,gL,q⟩
def Vd(E:Dx X.K T)(C:fP X e P)
  (S:∀{v},PE X e v->PE X (.Call g1 [e,g2] [] pos) (WN (Aq X.K T) (rN v (rN (tC (.ty T)) DI))))
  (n:autoParam (T∈["int","str","list","tuple","bool"]) zzy._auto_1):fP X (.Call g1 [e,g2] [] pos) (Jw T P):=by
 refine Â C λv U Y=>?_;refine⟨_,S U,λB M H m G F Q A o h k=>Y B M H m G F _ _ o h λd x L t W j=>?_⟩
 have fin:∀l,l∈["NoneType","bool","int","str","list","tuple"]->zm d=l->O6 X.K L x l->Aq X.K T [x,V.ty T] L A:=λl u w I=>by
  refine⟨x,_,gL,.inl ⟨l,I,E l u⟩,?_⟩;have q:Q (.bool (rB T d)):=Yx (λx y r z=>by subst z;have z2:("dict":String)=l:=w;subst z2;exact b9 u cS) j;unfold rB at q;rw[w]at q;exact k _ _ L t (.bool _) q
 cases W with
 |none=>exact fin "NoneType" gC gL gL
 |bool b=>exact fin "bool" gC gL gL
 |int i=>exact fin "int" gC gL gL
 |str z=>exact fin "str" gC gL gL
 |list q s=>exact fin "list" gC gL (.inl ⟨gL,_,L2.bF.seq bX q⟩)
 |tuple q s=>exact fin "tuple" gC gL (.inr (.inl ⟨gL,_,bF.seqT bX q⟩))
 |wild h=>exact fin "list" gC gL (.inr (.inr ⟨gL,_,bX _ _ h,λ_ ⟨_,_,e,_⟩=>⟨_,e,gL⟩⟩))
 |tape h _=>exact fin "list" gC gL (.inr (.inr ⟨gL,_,bX _ _ h,λ_ ⟨_,_,_,_,_,_,_,e,_⟩=>⟨_,e,gL⟩⟩))
 |exc x h=>
  refine⟨_,ww,gL,.inr ⟨_,_,_,gL,bX _ _ h,(λ_ z=>nomatch z),x.1,x.2 T n⟩,?_⟩;have f:Q (.bool (rB T (.dict _))):=j;rw[LJ n]at f;exact k _ _ L t (.bool _) f
 |excA x h g=>
  refine⟨_,ww,gL,.inr ⟨_,_,_,gL,bX _ _ h,λ_ z=>by cases z;exact⟨_,bX _ _ g⟩,x.1,x.2 T n⟩,?_⟩;have f:Q (.bool (rB T (.dict _))):=j;rw[LJ n]at f;exact k _ _ L t (.bool _) f
 |excD x h g _=>
  refine⟨_,ww,gL,.inr ⟨_,_,_,gL,bX _ _ h,λ_ z=>by cases z;exact⟨_,bX _ _ g⟩,x.1,x.2 T n⟩,?_⟩;have f:Q (.bool (rB T (.dict _))):=j;rw[LJ n]at f;exact k _ _ L t (.bool _) f
 |dct _ _ _=>exact(show False from j).elim
 |addr z=>exact(show False from j).elim
 |ins _ _=>exact(show False from j).elim
def JO(f:â->List D->(D->Prop)->Prop)(P:ET)(t:AT):ET:=λF Q=>P F λd=>∃z,d=.str z/\t F λg=>f z g Q
def Mp(z:â)(f:List D)(Q:D->Prop):Prop:=match f with | [.list ts]=>∃d,ts=d.map aI/\(d.map (·.length)).sum+d.length*z.length<=16777216/\Q (.str (Txt.join z d)) | _=>False
def IW{f:â->List D->(D->Prop)->Prop}{r:V->List V->Hp->VK->Prop}(y:fP X n P)(u:yA X (e::O) t)
  (w:∀H m z j l Q i,Reps X.K (ê H m) j l->f z j Q->(∀d v J,bF H J->gW X.K (ê J m) d v->Q d->i v J)->r (.str z) l H i)
  (C:∀{v R},PE X n v->PA X (e::O) R->PE X (.Call g (e::O) [] pos) (RQ X.K "str" r v R)):fP X (.Call g (e::O) [] pos) (JO f P t):=by
 refine Â y λv E Z=>?_;refine Â u λva A Y=>?_;refine⟨_,C E A,λB M H m G F Q i o h k=>Z B M H m G F _ _ o h λd x L s U q=>?_⟩;obtain⟨z,rfl,q⟩:=q;cases U;refine⟨gL,Y B M L m G F _ _ (o.grow s) q λj l N s2 W S=>?_⟩;exact w N m z j l Q i W S λd v J s' T I=>k d v J (s.trans (s2.trans s')) T I
def mL(j:fP X n P)(i:yA X (e::O) t)
  (o:∀{v R},PE X n v->PA X (e::O) R->PE X (.Call (.Attribute n "join" ap) (e::O) [] pos) (RQ X.K "str" (λx g H Q=>∃z p d,x=.str z/\g=[.ref p]/\pE X.K H p (d.map V.str)/\(d.map (·.length)).sum+d.length*z.length<=16777216/\Q (.str (Txt.join z d)) H) v R)):fP X (.Call (.Attribute n "join" ap) (e::O) [] pos) (JO Mp P t):=
 IW j i (λH m z y g Q w r h k=>by
  cases r with
  |nil=>exact h.elim
  |cons f u=>
   cases u with
   |cons _ _=>cases f<;>exact h.elim
   |nil=>
    cases f with
    |list q s=>
     obtain⟨d,rfl,l,h⟩:=h;have e:=tN s;subst e;exact⟨z,_,d,gL,gL,L2.bF.seq bX q,l,k _ _ H (L2.bF.refl H) (.str _) h⟩
    |_=>exact h.elim) o
def gW.reads{k:List (à×Obj)}{s:ã}{F:L2.St}(I:dL X k F H s){d:D}{x:V}{u:á}(hd:d.hasDict=ww)(r:gW X.K H d x)(l:fK x u):∃g,Reads s.heap u d g:=by
 refine gW.rec (motive_2:=λv E _=>∀w,mN v=ww->fN E w->∃g,ReadsAll s.heap w v g)
  (λu _ r=>by cases r;exact⟨_,.none⟩) (λb u _ r=>by cases r;exact⟨_,.bool b⟩) (λi u _ r=>by refine Ã r λt p=>?_;subst p;exact⟨_,.int i t⟩) (λz u _ r=>by refine Ã r λt p=>?_;subst p;exact⟨_,.str z t⟩)
  (λq _ a u hd r=>?_) (λq _ a u hd r=>?_) ?_ ?_ ?_ ?_ ?_ ?_ ?_ ?_ (λw _ r=>by cases r;exact⟨_,.nil⟩) (λ{d v x E} _ _ a b w hd r=>?_) r u hd l
 ·cases r;obtain⟨C,l,⟨o,n,h,j,_,y⟩,_⟩:=I.list q;refine Ã (a _ hd l) λg A=>?_;exact⟨_,.list h j y (by simpa using A)⟩
 ·cases r;obtain⟨C,l,⟨o,h,j,n,y⟩,_⟩:=I.tuple q;refine Ã (a _ hd l) λg A=>?_;exact⟨_,.tuple h j y (by simpa using A)⟩
 case refine_11=>
  have f:(d.hasDict||mN v)=false:=hd;rw[yU]at f
  cases r with
  |cons Q S=>
   refine Ã (a _ f.1 Q) λg h=>?_;refine Ã (b _ f.2 S) λbs j=>?_;exact⟨_,.cons h j⟩
 all_goals intros;rename_i hd _;cases hd
end
end TL
namespace TL
open L2
noncomputable def Bb(a:List (â×m8)):Bool:=match a.filter (λy=>y.2==e4)with
|[]=>wx
|[x]=>a.lookup x.1==wz .cell
|_=>ww
def Zn(h:Bb names=wx):xP names:=by
 unfold Bb at h;split at h
 ·rename_i e;exact .inl e
 ·rename_i x e;have a:x∈names.filter (λy=>y.2==e4):=by rw[e];exact aU.mpr gL
  exact .inr ⟨x.1,by rw[e,<- (bj (cW.mp a).2)],beq_iff_eq.mp h⟩
 ·cases h
noncomputable def pZ(a out:Scope)(c b:List â)(d:List (Option Nat)):Bool:=
 decide (a.kind=.function)&&Bb a.names&&a.names.all (λy=>decide (y.2≠.free)||decide (out.names.lookup y.1=wz .cell))&&a.names.all (λy=>decide (y.2≠.local)||decide (a.names.lookup y.1=wz .local))&&wF a.names out.names c b d
section
variable{X:Cx}{c iter j:æ}{d:List æ}{a:Scope}{pos:Pos}{f:List â}{k:List (Option Nat)}{n:TI}{g:BP->TG}{m:BP->TT}{l:BP->TE}
def IZ{out:Scope}(h:pZ a out Nx f k=wx):a.kind=.function/\xP a.names/\(∀y∈a.names,y.2=.free->out.names.lookup y.1=wz .cell)/\(∀y∈a.names,y.2=.local->a.names.lookup y.1=wz .local)/\wF a.names out.names Nx f k=true:=by
 unfold pZ at h;simp only[dH,gG,oI,c8]at h;obtain⟨⟨⟨⟨i,o⟩,p⟩,q⟩,r⟩:=h;exact⟨i,Zn o,λy b e=>(p y b).elim (λz=>b9 e z) id,λy b e=>(q y b).elim (λz=>b9 e z) id,r⟩
def Y7(h:pZ a X.env.scope X.N f k=wx)(e:X.calm=wx)(t:PI X j iter n)
  (s:∀b,PG (blk X a f b) j (g b)/\UA (blk X a f b) d (m b)/\PE (blk X a f b) c (l b)) (u:autoParam (∀x,j1 iter X.env x=pure x) zzx._auto_1):PE X (.ListComp c [⟨j,iter,d,0⟩] a pos) (hG k n g m l):=by
 refine Á (IZ h) λi o p q r=>?_;exact Pm e i o r p q t s u
def kW{i:Nat}{r e:Pos}(h:pZ a X.env.scope X.N f k=wx)(y:X.N.Nodup)(p:X.N[i]?=wz x)(E:WU X.env.scope x)(o:X.calm=wx)(B:PI X j iter n)
  (z:∀b,PG (blk X a f b) j (g b)/\UA (blk X a f b) d (m b)/\PE (blk X a f b) c (l b))
  (q:mH (.ListComp c [⟨j,iter,d,0⟩] a pos) (wz (.Name x r)) e.line X.env=pure wx) (C:autoParam (∀x,j1 iter X.env x=pure x) zzx._auto_1) (A:autoParam (X.fn x=wx\/X.env.scope.names.lookup x=wz .local) zzn._auto_1) :
  PS X (.Assign [.Name x r] (.ListComp c [⟨j,iter,d,0⟩] a pos) e) (xT (hG k n g m l) (nD i)):=by
 refine Á (IZ h) λs t u v w=>?_;exact YY y p E o s t w u v B z q C A
end
def Hg:d9 "all"=wz (.builtin "all"):=by rfl
def Hh:d9 "max"=wz (.builtin "max"):=by rfl
def nL:d9 "isinstance"=wz (.builtin "isinstance"):=by rfl
def fV:d9 "len"=wz (.builtin "len"):=by rfl
def qH:d9 "tuple"=wz (.type "tuple"):=by rfl
def T6:d9 "list"=wz (.type "list"):=by rfl
def rW:d9 "str"=wz (.type "str"):=by rfl
def CM:d9 "int"=wz (.type "int"):=by rfl
def VL(K:aH):Dx K "tuple":=by
 intro a h;simp only[aQ,cP,i6]at h;rcases h with rfl | rfl | rfl | rfl | rfl | rfl<;>rfl
def KM{d:Type}(l:List d)(i:Nat)(a b:d):(l.set i a).set i b=l.set i b:=by
 simp
def Eg{f:List D}{i:List Sl}{m:ET}{Q:D->Prop}(R:Nat->D->D->Prop)(A:f.length<=100000)
  (v:∀k x q,f[k]?=wz x->(∀y,R k x y->q y)->m (i.set 0 (.val x)) q)
  (u:∀o,o.length=f.length->(∀k x y,f[k]?=wz x->o[k]?=wz y->R k x y)->Q (.list o)) :
  f.length<=100000/\∃P:Nat->List Sl->List D->Prop,P 0 i [] /\
   (∀k x a c,f[k]?=wz x->P k a c->gN 0 x a λd=>DA d λb=>if b=wx then m d λy=>P (k+1) d (c++[y])else P (k+1) d c)/\∀a c,P f.length a c->Q (.list c):=by
 refine⟨A,λk a c=>(∀x,a.set 0 (.val x)=i.set 0 (.val x))/\c.length=k/\∀(j:Nat)(x y:D),f[j]?=wz x->c[j]?=wz y->R j x y,⟨λ_=>rfl,gL,λj x y _ h=>by simp at h⟩,λk x a c r h=>?_,λa c h=>u c h.2.1 h.2.2⟩;refine ñ h λs p t=>?_;show m (a.set 0 (.val x)) _;rw[s x];refine v k x _ r λy w=>⟨λz=>KM _ _ _ _,by simp[p],λj B C l g=>?_⟩;by_cases E:j<k
 ·rw[eQ eH]at g;exact t j B C l g
 ·rw[dY eH]at g
  have:j=k:=by
   by_cases e:j=k
   ·exact e
   ·have:j-c.length≠0:=by lia
    cases q:j-c.length with
    |zero=>exact b9 q this
    |succ n=>rw[q]at g;simp at g
  subst this;rw[r]at l;cases l;simp[p]at g;subst g;exact w
def QJ{d:List D}{l:List Sl}{p:ET}{Q:D->Prop}(f:D->D)(t:d.length<=100000)(s:∀x q,x∈d->q (f x)->p (l.set 0 (.val x)) q)(r:Q (.list (d.map f))) :
  d.length<=100000/\∃P:Nat->List Sl->List D->Prop,P 0 l [] /\
   (∀k x a g,d[k]?=wz x->P k a g->gN 0 x a λc=>DA c λb=>if b=wx then p c λy=>P (k+1) c (g++[y])else P (k+1) c g)/\∀a g,P d.length a g->Q (.list g):=by
 refine Eg (λk x y=>y=f x) t (λk x q j h=>s x q (aZ j) (h _ gL)) λm o h=>?_
 have e:m=d.map f:=by
  apply kK;intro i;rw[aO]
  cases j:d[i]? with
  |none=>
   rw[eM (by rw[o];exact tJ.mp j)];rfl
  |some x=>
   have n:i<m.length:=by rw[o];exact(aJ.mp j).1
   have:=h i x m[i] j (aL n);rw[aL n,this];rfl
 rw[e];exact r
def Zf{d:List D}{i:List Sl}{j:yN}{n:ET}{Q:D->Prop}(p:D->Bool)(f:D->D)(u:d.length<=100000)(r:∀x q,x∈d->q (p x)->j (i.set 0 (.val x)) q)
  (t:∀x q,x∈d->q (f x)->n (i.set 0 (.val x)) q) (s:Q (.list ((d.filter p).map f))) :
  d.length<=100000/\∃P:Nat->List Sl->List D->Prop,P 0 i [] /\
   (∀k x a c,d[k]?=wz x->P k a c->gN 0 x a λg=>j g λb=>if b=wx then n g λy=>P (k+1) g (c++[y])else P (k+1) g c)/\∀a c,P d.length a c->Q (.list c):=by
 refine⟨u,λk a c=>(∀x,a.set 0 (.val x)=i.set 0 (.val x))/\c=((d.take k).filter p).map f,⟨λ_=>rfl,gL⟩,λk x a c m h=>?_,λa c h=>?_⟩
 ·refine Ä h λo z=>?_;subst z;have l:=aZ m;show j (a.set 0 (.val x)) _;rw[o x];refine r x _ l ?_;have e:d.take (k+1)=d.take k++[x]:=by rw[dD,m];rfl
  simp_all
 grind
section
variable{c:List (Option Nat)}{b:IT}{e:yN}{d:ET}{a:List Sl}{Q:D->Prop}{ts:List D}
abbrev wP(b:IT)(a:List Sl)(ts:List D):Prop:=∀R,R ts->b a R
def iR(g:wP b a ts)(f:D->D)(j:ts.length<=100000)(i:∀x q,x∈ts->q (f x)->d ((jZ c a).set 0 (.val x)) q)(h:Q (.list (ts.map f))):WR c b (gN 0) DA d a Q:=
 g _ (QJ f j i h)
def QI(f:wP b a ts)(R:Nat->D->D->Prop)(j:ts.length<=100000)
  (i:∀k x q,ts[k]?=wz x->(∀y,R k x y->q y)->d ((jZ c a).set 0 (.val x)) q)
  (h:∀g,g.length=ts.length->(∀k x y,ts[k]?=wz x->g[k]?=wz y->R k x y)->Q (.list g)):WR c b (gN 0) DA d a Q:=
 f _ (Eg R j i h)
def AX(g:wP b a ts)(p:D->Bool)(f:D->D)(k:ts.length<=100000)(h:∀x q,x∈ts->q (p x)->e ((jZ c a).set 0 (.val x)) q)
  (j:∀x q,x∈ts->q (f x)->d ((jZ c a).set 0 (.val x)) q) (i:Q (.list ((ts.filter p).map f))):WR c b (gN 0) e d a Q:=
 g _ (Zf p f k h j i)
def Cq{g:GT}{h:DB}(i:wP b a ts)(P:Nat->List Sl->Prop)(l:P 0 a)
  (m:∀k x f,ts[k]?=wz x->P k f->g x f λj=>tb { h with nx:=P (k+1),ct:=P (k+1),bk:=h.nx } j) (hd:∀f,P ts.length f->h.nx f):YA b g tb h a:=i _ ⟨P,l,m,hd⟩
end
def lY(x y:â):(x++y).cps.toList=x.cps.toList++y.cps.toList:=by
 show(x.cps++y.cps).toList=_;simp
def pO{x y:â}(h:x.cps.toList=y.cps.toList):x=y:=by
 cases x with
 |mk a=>
  simp_all
def PU(b:Array Nat)(a k:Nat):(gA k).filterMap (λm=>b[a+m]?)=(b.toList.drop a).take k:=by
 induction k with
 |zero=>simp
 |succ k c=>
  rw[G0,List.filterMap_append,c,dD,lZ];congr 1;simp only[lG,List.filterMap_nil];rw[jW];cases b[a+k]?<;>rfl
def T4(v:Option Int)(n d:Nat)(hd:d<=n):(match v with | none=>(d:Int) | some i=>max 0 (min (if i<0 then i+(n:Int)else i) (n:Int)))=((HT.sIx n d v:Nat):Int):=by
 cases v with
 |none=>rfl
 |some i=>
  have:=HT.clip_eq i n d;rw[<- this];dsimp only;split<;>lia
def aBi(v:Option Int)(n:Nat):(match v with | none=>(0:Int) | some i=>max 0 (min (if i<0 then i+(n:Int)else i) (n:Int)))=((HT.sIx n 0 v:Nat):Int):=T4 v n 0 (dA _)
def X2{a c b d:Int}(e:a=c)(f:b=d):jd a b 1=jd c d 1:=by rw[e,f]
def vX(z:â)(lo c:Option Int):(Txt.slice z lo c).cps.toList=fY z.cps.toList lo c:=by
 have d:z.cps.toList.length=z.length:=by simp[o4]
 have j:=HT.sIx_le z.length 0 (dA _) lo;have hb:=HT.sIx_le z.length z.length (aP _) c
 have i:ax lo c 1 z.length=(gA (HT.sIx z.length z.length c-HT.sIx z.length 0 lo)).map (λk=>HT.sIx z.length 0 lo+k):=by
  unfold ax;refine(X2 (aBi lo z.length) (T4 c z.length z.length (aP _))).trans ?_;unfold jd;simp only[show(1:Int)>0 by decide,x6]
  generalize HT.sIx z.length 0 lo=a
  generalize HT.sIx z.length z.length c=b
  have e:(if(a:Int)<(b:Int)then((b:Int)-a+1-1) / 1 else 0).toNat=b-a:=by split<;>lia
  rw[e];apply jS;intro k _;lia
 unfold Txt.slice fY;rw[d,i]
 generalize HT.sIx z.length 0 lo=a at *
 generalize HT.sIx z.length z.length c=b at *
 split
 ·next h=>
  simp only[beq_self_eq_true,kQ,dw,aC,uC]at h;have f:a=0:=by lia
  grind
 ·rw[W3];exact PU z.cps a (b-a)
def QM:∀a,(Txt.join ⟨#[]⟩ a).cps.toList=(a.map (·.cps.toList)).flatten:=by
 intro a;show(u0 ⟨#[]⟩ a).cps.toList=_;rw[l7]
 induction a with
 |nil=>rfl
 |cons x a b=>
  cases a with
  |nil=>simp[af]
  |cons y r=>
   show(x++⟨#[]⟩++af ⟨#[]⟩ (y::r)).cps.toList=_;rw[lY,lY,b];simp
def Hv(x:â)(c:Nat):Txt.contains x ⟨#[c]⟩=decide (c∈x.cps.toList):=StrLaws.found_one x c
section
variable{f:ET}{u t e:zW}{c:yN}{d:DB}{a:List Sl}{i:Nat}
def cL(v:D)(h:∀q,q v->f a q)(k:u d (a.set i (.val v))):qO (KP i f) u d a:=h _ k
def dP(R:D->Prop)(h:∀q,(∀v,R v->q v)->f a q)(k:∀v,R v->u d (a.set i (.val v))):qO (KP i f) u d a:=h _ k
def iZ(R:Bool->Prop)(h:∀q,(∀b,R b->q b)->c a q)(j:R wx->t { d with nx:=u d } a)(g:R ww->e { d with nx:=u d } a):qO (lS c t e) u d a:=by
 refine h _ λb hb=>?_
 lia
def B2(R:Bool->Prop)(h:∀q,(∀b,R b->q b)->c a q)(j:R wx->t d a)(g:R ww->e d a):lS c t e d a:=by
 refine h _ λb hb=>?_
 lia
def pT{ts:List D}{g:GT}(h:wP ti a ts)(P:Nat->List Sl->Prop)(l:P 0 a)
  (m:∀k x b,ts[k]?=wz x->P k b->g x b λj=>tb { d with nx:=P (k+1),ct:=P (k+1),bk:=u d } j) (hd:∀b,P ts.length b->u d b):qO (YA ti g tb) u d a:=
 Cq h P l m hd
def qY{t:AT}(b:List D)(g:b.length<=1000)(h:∀q,q b->t a q)(k:u d (a.set i (.own b))):qO (Au i t) u d a:=h _ ⟨g,k⟩
def R0{ts:List D}(v:D)(b:a[i]?=wz (.own ts))(g:ts.length<=100000)(h:∀q,q v->f a q)(k:u d (a.set i (.own (ts++[v])))):qO (As i f) u d a:=⟨ts,b,h _ ⟨g,k⟩⟩
def xD{b:List D}(v:D)(g:a[i]?=wz (.own b))(j:b.length<=100000)(h:∀q,q v->f a q)(k:d.nx (a.set i (.own (b++[v])))):As i f d a:=⟨b,g,h _ ⟨j,k⟩⟩
def sP(v:D)(h:∀q,q v->f a q)(k:d.nx (a.set i (.val v))):KP i f d a:=h _ k
end
mutual
theorem nU:∀{d:D},d.canLay0=wx->d.hasDict=ww
|.none,_=>rfl
|.bool _,_=>rfl
|.int _,_=>rfl
|.str _,_=>rfl
|.list _,h=>noDictAll h
|.tuple _,h=>noDictAll h
|.dict _,h=>by cases h
theorem noDictAll:∀{a:List D},eA a=wx->mN a=ww
|[],_=>rfl
|d::a,h=>by
 have b:(d.canLay0&&eA a)=true:=h;rw[dH]at b;show(d.hasDict||mN a)=ww;rw[nU b.1,noDictAll b.2];rfl
end
section
variable{X:Cx}{b e:æ}
def CY(K:aH)(ok:D->D->Prop)(f:D->D->Bool):R2:=λx y H Q=>∃a c,gW K H a x/\gW K H c y/\ok a c/\Q (.bl (f a c)) H
def Mm(ok:D->D->Prop)(f:D->D->Bool)(x y:D)(Q:D->Prop):Prop:=ok x y/\Q (.bool (f x y))
def uS{ok:D->D->Prop}{f:D->D->Bool}:BJ X (CY X.K ok f) (Mm ok f):=by
 intro H j a c x y Q i live d g h k;exact⟨a,c,d.same bX,g.same bX,h.1,k _ _ H (L2.bF.refl H) (.bool _) h.2⟩
def ZP(a c:D):Prop:=a.canLay0=wx/\c.canLay0=wx/\min a.depth c.depth<=60
def FI{k:Nat}(g:iF k X.A):pF X (d6 .Eq) (CY X.K ZP dW):=by
 intro c s t H x y v u Q I l m h;obtain⟨o,p,i,j,⟨c1,a,r⟩,q⟩:=h;refine Ã (gW.reads I (nU c1) i l) λn d=>?_;refine Ã (gW.reads I (nU a) j m) λbs f=>?_;exact SeqAt.compareEq_reads d f c1 a (by have:=g.un;lia) ⟨.bl _,H,I,gL,q⟩
def PZ{k:Nat}(g:iF k X.A):pF X (d6 .NotEq) (CY X.K ZP λx y=>!dW x y):=by
 intro c s t H x y v u Q I l m h;obtain⟨o,p,i,j,⟨c1,a,r⟩,q⟩:=h;refine Ã (gW.reads I (nU c1) i l) λn d=>?_;refine Ã (gW.reads I (nU a) j m) λbs f=>?_;exact SeqAt.compareNe_reads d f c1 a (by have:=g.un;lia) ⟨.bl _,H,I,gL,q⟩
def FK(x y:D):Prop:=match y with
|.list ts=>eA ts=wx/\x.canLay0=wx/\min (eP ts) x.depth<=60
|.tuple ts=>eA ts=wx/\x.canLay0=wx/\min (eP ts) x.depth<=60
|_=>False
noncomputable def OW(x y:D):Bool:=match y with
|.list ts=>ts.any λz=>dW z x
|.tuple ts=>ts.any λz=>dW z x
|_=>ww
def U5{k:Nat}(i:iF k X.A):pF X (d6 .In) (CY X.K FK OW):=by
 intro j s t H x y v u Q I o p h;refine Ñ h λl c m n a q=>?_
 have hd:l.hasDict=ww/\c.hasDict=false:=by
  cases c with
  |list d=>exact⟨nU a.2.1,noDictAll a.1⟩
  |tuple d=>exact⟨nU a.2.1,noDictAll a.1⟩
  |_=>exact a.elim
 refine Ã (gW.reads I hd.1 m o) λr f=>?_;refine Ã (gW.reads I hd.2 n p) λbs g=>?_
 cases c with
 |list d=>exact SeqAt.in_list_reads g f a.1 a.2.1 (by have:=i.un;have:=a.2.2;lia) ⟨.bl _,H,I,gL,q⟩
 |tuple d=>exact SeqAt.in_tuple_reads g f a.1 a.2.1 (by have:=i.un;have:=a.2.2;lia) ⟨.bl _,H,I,gL,q⟩
 |_=>exact a.elim
def K3{k:Nat}(i:iF k X.A):pF X (d6 .NotIn) (CY X.K FK λx y=>!OW x y):=by
 intro j s t H x y v u Q I o p h;refine Ñ h λl c m n a q=>?_
 have hd:l.hasDict=ww/\c.hasDict=false:=by
  cases c with
  |list d=>exact⟨nU a.2.1,noDictAll a.1⟩
  |tuple d=>exact⟨nU a.2.1,noDictAll a.1⟩
  |_=>exact a.elim
 refine Ã (gW.reads I hd.1 m o) λr f=>?_;refine Ã (gW.reads I hd.2 n p) λbs g=>?_
 cases c with
 |list d=>exact SeqAt.notIn_list_reads g f a.1 a.2.1 (by have:=i.un;have:=a.2.2;lia) ⟨.bl _,H,I,gL,q⟩
 |tuple d=>exact SeqAt.notIn_tuple_reads g f a.1 a.2.1 (by have:=i.un;have:=a.2.2;lia) ⟨.bl _,H,I,gL,q⟩
 |_=>exact a.elim
def Cp(x y:D)(Q:D->Prop):Prop:=match x,y with
|.str z,.str y=>Q (.bool (Txt.contains y z))
|x,y=>FK x y/\Q (.bool (OW x y))
def P1{k:Nat}(a:iF k X.A):pF X (d6 .In) (λx y H Q=>(∃i j,x=.str i/\y=.str j/\Q (.bl (!(j6 j i 0 j.length 1).isEmpty)) H)\/CY X.K FK OW x y H Q):=IN.or (U5 a)
def ZR:BJ X (λx y H Q=>(∃i j,x=.str i/\y=.str j/\Q (.bl (!(j6 j i 0 j.length 1).isEmpty)) H)\/CY X.K FK OW x y H Q) Cp:=by
 intro H l a c x y Q d live f g h k;have gen:FK a c/\Q (.bool (OW a c))->_:=λh=>(.inr ⟨a,c,f.same bX,g.same bX,h.1,k _ _ H (L2.bF.refl H) (.bool _) h.2⟩:(∃i j,x=.str i/\y=.str j/\d (.bl (!(j6 j i 0 j.length 1).isEmpty)) H)\/CY X.K FK OW x y H d)
 cases f with
 |str z=>
  cases g with
  |str w=>exact .inl ⟨z,w,gL,gL,k _ _ H (L2.bF.refl H) (.bool _) h⟩
  |_=>exact gen h
 |_=>exact gen h
noncomputable def uV:D->Bool
|.none=>wx
|_=>ww
def Jf(x y:D)(Q:D->Prop):Prop:=match y with | .bool b=>Q (.bool (xJ b x)) | .none=>Q (.bool (uV x)) | _=>False
def Zs(x y:D)(Q:D->Prop):Prop:=match y with | .bool b=>Q (.bool (!xJ b x)) | .none=>Q (.bool (!uV x)) | _=>False
def K4:pF X (d6 .Is) (λx y H Q=>Ap x y H Q\/(y=.non/\Q (.bl (decide (x=.non))) H)):=Wn.or Wo
def U3:pF X (d6 .IsNot) (λx y H Q=>KY x y H Q\/(y=.non/\Q (.bl (!decide (x=.non))) H)):=U2.or Zp
def SO:BJ X (λx y H Q=>Ap x y H Q\/(y=.non/\Q (.bl (decide (x=.non))) H)) Jf:=by
 intro H i a g x y Q f live c d h k
 cases d with
 |bool b=>
  refine .inl ⟨b,gL,?_⟩;have e:(decide (x=V.bl b))=xJ b a:=by cases c<;>simp[xJ]
  rw[e];exact k _ _ H (L2.bF.refl H) (.bool _) h
 |none=>
  refine .inr ⟨gL,?_⟩;have e:(decide (x=V.non))=uV a:=by cases c<;>simp[uV]
  rw[e];exact k _ _ H (L2.bF.refl H) (.bool _) h
 |_=>exact h.elim
def ZQ:BJ X (λx y H Q=>KY x y H Q\/(y=.non/\Q (.bl (!decide (x=.non))) H)) Zs:=by
 intro H i a g x y Q f live c d h k
 cases d with
 |bool b=>
  refine .inl ⟨b,gL,?_⟩;have e:(!decide (x=V.bl b))=!xJ b a:=by cases c<;>simp[xJ]
  rw[e];exact k _ _ H (L2.bF.refl H) (.bool _) h
 |none=>
  refine .inr ⟨gL,?_⟩;have e:(!decide (x=V.non))=!uV a:=by cases c<;>simp[uV]
  rw[e];exact k _ _ H (L2.bF.refl H) (.bool _) h
 |_=>exact h.elim
end
end TL
namespace L2
section
variable{P:cO}{w:f8}{A:e6}{E:á->ã->Prop}{s:ã}
def P7{i t:à}{k:Nat}{Q:á->ã->Prop}(a:s.heap.IsTupleIter i t k)(h:s.heap.IsTuple t xs)(j:xs[k]?=wz x)
  (f:∀c,c.IsTupleIter i t (k+1)->fX i s.heap c->Q x { s with heap:=c }):å (ä P w) A (l0 (.ref i)) Q E s:=by
 refine Å (id a) λo b g hd=>?_;refine ÿ h λm e _ l d=>?_;refine aG (j2 a.typeIs n7 (mG n7 a.typeIs dt ?_ (cx _)));show å _ _ (field (.ref i) 0 >>= _) _ _ s;refine aG (f6 b hd (x:=.ref t) gL ?_);rw[a8 (show¬((d7 t==j9)=wx)from bT)];refine aG (f6 b hd gL ?_);refine aG (l8 e d ?_);simp only[uI,j];refine aG (y7 b hd gC (bB ⟨x,gL,bB (f _ ?_ (fX.update ..))⟩));exact⟨_,qM _ b (z7 (o1 hd _)),(gp ..).trans g,by rw[o1 hd];simp[t4]⟩
def FP{i t:à}{k:Nat}{Q:á->ã->Prop}(g:A.handled=wy)(a:s.heap.IsTupleIter i t k)(j:s.heap.IsTuple t xs)(l:xs[k]?=wy)
  (h:∀b e,aTq i s.heap b->(∃o,b.get? e=wz o/\o.cls=.type "StopIteration")->E (.ref e) { s with heap:=b }):å (ä P w) A (l0 (.ref i)) Q E s:=by
 refine Å (id a) λo d m hd=>?_;refine ÿ j λp f _ n c=>?_;refine aG (j2 a.typeIs n7 (mG n7 a.typeIs dt ?_ (cx _)));show å _ _ (field (.ref i) 0 >>= _) _ _ s;refine aG (f6 d hd (x:=.ref t) gL ?_);rw[a8 (show¬((d7 t==j9)=wx)from bT)];refine aG (f6 d hd gL ?_);refine aG (l8 f c ?_);simp only[uI,l];refine aG (o8 (aG (y7 d hd gC ?_)));refine aG ?_;refine aG (iV ?_ (by size_fits));refine aG (wpAny_of_eq (by rfl) ?_);refine iV ?_ (by size_fits);refine aG (wpAny_handled ?_)
 first | rw[show A.in1.handled=wy from g] | rw[g]
 refine aG (bB (wpAny_throw ?_));exact h _ _ (((fX.update ..).extBut.push _).push _) ⟨_,bA _ gL,gL⟩
end
structure rX(P:cO)(w:f8)(i l:à)(st:Nat->ç->Prop)(src:Array á->ç->Prop):Prop where
 stAt:∀k h h',st k h->(∀o,h.get? i=wz o->h'.get? i=wz o)->st k h'
 srcAt:∀xs h h',src xs h->(∀o,h.get? l=wz o->h'.get? l=wz o)->src xs h'
 has:∀k h,st k h->∃o,h.get? i=wz o/\∀v,o.data≠.cell v
 item:∀(A:e6)E(s:ã)(k:Nat)(xs:Array á)(x:á)Q,st k s.heap->src xs s.heap->xs[k]?=wz x ->
  (∀h',st (k+1) h'->fX i s.heap h'->Q x { s with heap:=h' })->å (ä P w) A (l0 (.ref i)) Q E s
 fin:∀(A:e6)E(s:ã)(k:Nat)(xs:Array á)Q,A.handled=wy->st k s.heap->src xs s.heap->xs[k]?=wy ->
  (∀h' e,aTq i s.heap h'->(∃o,h'.get? e=wz o/\o.cls=.type "StopIteration")->E (.ref e) { s with heap:=h' })->å (ä P w) A (l0 (.ref i)) Q E s
def JP(i l:à):rX P w i l (λk h=>h.IsTupleIter i l k) (λxs h=>h.IsTuple l xs) where
 stAt:=λ_ _ _ x e=>x.at e
 srcAt:=λ_ _ _ x e=>x.at e
 has:=λk h x=>by refine Å x λo e c d=>?_;grind
 item:=λ_ _ _ _ _ _ _ h1 h2 hx hQ=>P7 h1 h2 hx hQ
 fin:=λ_ _ _ _ _ _ hh h1 h2 hx hE=>FP hh h1 h2 hx hE
section
variable{P:cO}{w:f8}{A:e6}{E:á->ã->Prop}{s:ã}{z TI TO j l p q:à}{g i:Nat->ç->Prop}{d f:Array á->ç->Prop}{k:Nat}{m n:Array á}{a b:á}
def W9{Q:á->ã->Prop}(B:rX P w j p g d)(C:rX P w l q i f)(D:ev z TI TO j l p q)(H:fx s.heap z TI TO .none)(W:IsPair s.heap TI (.ref j) (.ref l))(X:IsPair s.heap TO a b)
  (h1:g k s.heap) (h2:i k s.heap) (Z:d m s.heap) (sh:f n s.heap) (hx:m[k]?=wz x) (hy:n[k]?=wz y)
  (hQ:∀r,fx r z TI TO (t4 s.heap.objs.size)->IsPair r TO x y->g (k+1) r->i (k+1) r->IsPair r s.heap.objs.size x y->r.objs.size=s.heap.objs.size+1 ->
   (∀c o,c≠z->c≠TO->c≠j->c≠l->s.heap.get? c=wz o->r.get? c=wz o)->Q (.ref s.heap.objs.size) { s with heap:=r }) :
  å (ä P w) A (bg.«zip.__next__» ⟨[.ref z],[]⟩) (λfin s'=>∃v,fin=.done (.ret v)/\Q v s') E s:=by
 show å _ _ (field (.ref z) 2 >>= _) _ _ _;refine aG (f6 H gL gL ?_);refine aG (f6 H gL gL ?_);refine aG (l8 W gL ?_);refine aG ?_;refine aG (f6 H gL gL (bB ?_));refine aG (o8 ?_);refine aG (f6 H gL gL ?_);refine aG (m7 H gC λha uf sa=>?_);refine aG ?_;refine aG (aG (bw ?_));refine aG (B.item _ _ _ k m x _ (B.stAt _ _ _ h1 λo e=>sa.extBut _ _ D.i1z e) (B.srcAt _ _ _ Z λo e=>sa.extBut _ _ D.l1z e) hx λhb T sb=>bB ?_);have M:=sb.extBut _ _ D.TOi1 (sa.extBut _ _ D.TOz X);refine aG (l8 M gL ?_);refine aG (bf M λhc pu u=>?_);refine aG (ec (bB ?_));refine aG (aG (bw ?_))
 refine aG (C.item _ _ _ k n y _ (C.stAt _ _ _ h2 λo e=>u.extBut _ _ D.TOi2.symm (sb.extBut _ _ D.i12.symm (sa.extBut _ _ D.i2z e)))
  (C.srcAt _ _ _ sh λo e=>u.extBut _ _ D.l2TO (sb.extBut _ _ D.l2i1 (sa.extBut _ _ D.l2z e))) hy λhd U sd=>bB ?_)
 have N:=sd.extBut _ _ D.TOi2 pu;refine aG (l8 N gL ?_);refine aG (bf N λF h L=>?_)
 replace h:IsPair F TO x y:=h
 refine aG (ec (bB (bB ?_)));refine aG (l8 h gL ?_);refine aG (wpAny_newTuple ?_);have G:F.objs.size=s.heap.objs.size:=by rw[L.1,sd.1,u.1,sb.1,sa.1]
 have J:=L.extBut _ _ D.TOz.symm (sd.extBut _ _ D.i2z.symm (u.extBut _ _ D.TOz.symm (sb.extBut _ _ D.i1z.symm uf)))
 have ke:∀c o,c≠z->c≠TO->c≠j->c≠l->s.heap.get? c=wz o->F.get? c=wz o:=λc o c1 O R S e=>
  L.extBut _ _ O (sd.extBut _ _ S (u.extBut _ _ O (sb.extBut _ _ R (sa.extBut _ _ c1 e))))
 have t:=bC J;refine aG ?_;refine aG (m7 (aK _ J) gC λhg ug sg=>?_);refine m7 ug gC λY K si=>?_;have up:∀c o,c≠z->F.get? c=wz o->Y.get? c=wz o:=λc o c1 e=>si.extBut _ _ c1 (sg.extBut _ _ c1 (aK _ e));have hT:=si.extBut _ _ (iP t) (sg.extBut _ _ (iP t) (bA _ gL));have I:Y.objs.size=F.objs.size+1:=by rw[si.1,sg.1,fL]
 rw[G]at K hT I;refine bB ⟨_,gL,?_⟩;rw[G];exact hQ Y K (up _ _ D.TOz h) (B.stAt _ _ _ (B.stAt _ _ _ T λo e=>L.extBut _ _ D.TOi1.symm (sd.extBut _ _ D.i12 (u.extBut _ _ D.TOi1.symm e))) λo e=>up _ o D.i1z e) (C.stAt _ _ _ (C.stAt _ _ _ U λo e=>L.extBut _ _ D.TOi2.symm e) λo e=>up _ o D.i2z e) hT I λc o c1 O R S e=>up c o c1 (ke c o c1 O R S e)
def W6{Q:Fin->ã->Prop}(Z:A.handled=wy)(H:rX P w j p g d)(J:rX P w l q i f)(D:ev z TI TO j l p q)(y:fx s.heap z TI TO .none)(L:IsPair s.heap TI (.ref j) (.ref l))(M:IsPair s.heap TO a b)
  (h1:g k s.heap) (h2:i k s.heap) (R:d m s.heap) (S:f n s.heap) (v:m[k]?=wy\/n[k]?=wy)
  (X:∀K e,(∀c o,c≠z->c≠TO->c≠j->c≠l->s.heap.get? c=wz o->K.get? c=wz o)->(∃o,K.get? e=wz o/\o.cls=.type "StopIteration")->E (.ref e) { s with heap:=K }) :
  å (ä P w) A (bg.«zip.__next__» ⟨[.ref z],[]⟩) Q E s:=by
 show å _ _ (field (.ref z) 2 >>= _) _ _ _;refine aG (f6 y gL gL ?_);refine aG (f6 y gL gL ?_);refine aG (l8 L gL ?_);refine aG ?_;refine aG (f6 y gL gL (bB ?_));refine aG (o8 ?_);refine aG (f6 y gL gL ?_);refine aG (m7 y gC λha B sa=>?_);refine aG ?_;refine aG (aG (bw ?_));have W:=H.stAt _ _ _ h1 λo e=>sa.extBut _ _ D.i1z e;have q1:=H.srcAt _ _ _ R λo e=>sa.extBut _ _ D.l1z e
 cases T:m[k]? with
 |none=>
  refine aG (H.fin _ _ _ k m _ Z W q1 T λhb e sb N=>?_);refine Â N λU r t=>?_;have C:=sb _ _ D.i1z.symm B;have O:e≠z:=λx=>by lia
  refine m7 C gC λY _ u=>X Y e (λc o c1 _ I _ x=>u.extBut _ _ c1 (sb _ _ I (sa.extBut _ _ c1 x))) ⟨U,u.extBut _ _ O r,t⟩
 |some x=>
  have hy:n[k]?=none:=by rcases v with h | h;rw[T]at h;cases h;exact h
  refine aG (H.item _ _ _ k m x _ W q1 T λhb vf sb=>bB ?_);have G:=sb.extBut _ _ D.TOi1 (sa.extBut _ _ D.TOz M);refine aG (l8 G gL ?_);refine aG (bf G λY pu u=>?_);refine aG (ec (bB ?_));refine aG (aG (bw ?_))
  refine aG (J.fin _ _ _ k n _ Z (J.stAt _ _ _ h2 λo e=>u.extBut _ _ D.TOi2.symm (sb.extBut _ _ D.i12.symm (sa.extBut _ _ D.i2z e)))
   (J.srcAt _ _ _ S λo e=>u.extBut _ _ D.l2TO (sb.extBut _ _ D.l2i1 (sa.extBut _ _ D.l2z e))) hy λhd e sd N=>?_)
  refine Â N λU r t=>?_;have F:=sd _ _ D.i2z.symm (u.extBut _ _ D.TOz.symm (sb.extBut _ _ D.i1z.symm B));refine m7 F gC λhf _ sf=>X hf e (λc o c1 c2 I c4 x=>sf.extBut _ _ c1 (sd _ _ c4 (u.extBut _ _ c2 (sb.extBut _ _ I (sa.extBut _ _ c1 x))))) ⟨U,sf.extBut _ _ (λx=>by lia) r,t⟩
def W8{Q:Option á->ã->Prop}(K:rX P w j p g d)(L:rX P w l q i f)(D:ev z TI TO j l p q)(B:fx s.heap z TI TO .none)(h:IsPair s.heap TI (.ref j) (.ref l))(r:IsPair s.heap TO a b)
  (M:g k s.heap) (N:i k s.heap) (t:d m s.heap) (u:f n s.heap) (R:m[k]?=wz x) (S:n[k]?=wz y)
  (O:∀e,fx e z TI TO (t4 s.heap.objs.size)->IsPair e TO x y->g (k+1) e->i (k+1) e->IsPair e s.heap.objs.size x y->e.objs.size=s.heap.objs.size+1 ->
   (∀c o,c≠z->c≠TO->c≠j->c≠l->s.heap.get? c=wz o->e.get? c=wz o)->Q (wz (.ref s.heap.objs.size)) { s with heap:=e }):å (ä P w) A (jb (.ref z)) Q E s:=by
 have v:s.TypeIs (.ref z) "zip":=⟨_,B,gL⟩
 exact aG (fo (j2 v z9 (mG z9 v F.entry_zip_next
  (W9 K L D B h r M N t u R S λe C a2 G a4 H I J=>bB (O e C a2 G a4 H I J)) (ig _))))
def aCr{Q:Option á->ã->Prop}(M:A.handled=wy)(C:rX P w j p g d)(G:rX P w l q i f)(D:ev z TI TO j l p q)(B:fx s.heap z TI TO .none)(t:IsPair s.heap TI (.ref j) (.ref l))(u:IsPair s.heap TO a b)
  (H:g k s.heap) (I:i k s.heap) (v:d m s.heap) (x:f n s.heap) (h:m[k]?=wy\/n[k]?=wy)
  (J:∀r,(∀c o,c≠z->c≠TO->c≠j->c≠l->s.heap.get? c=wz o->r.get? c=wz o)->Q wy { s with heap:=r }):å (ä P w) A (jb (.ref z)) Q E s:=by
 have y:s.TypeIs (.ref z) "zip":=⟨_,B,gL⟩;refine aG (fo (j2 y z9 (mG z9 y F.entry_zip_next (W6 M C G D B t u H I v x h λr e N L=>?_) (ig _))));refine Â L λo O K=>?_;refine aG (wpAny_isInstance ⟨o,O,K⟩ isSubtype_stop ?_);exact bB (J _ N)
end
section
variable{X:Cx}{a:List (à×Obj)}{f:St}{H:Hp}{s:ã}{d:ç}
def dL.turnedL{B:Nat}{i:List à}(I:dL X a f H s)(j:∀b∈i,DR X a H b)(k:∀b o,b∉i->s.heap.get? b=wz o->d.get? b=wz o):dL X a f H { s with heap:=d,toks:=B }:=by
 have h:∀b u,H b=wz u->b∉i:=λb u e z=>by rw[(j b z).1]at e;cases e
 refine I.step (λb hb=>?_) (λb o _ _ g e _=>k b o g e) (λb o _ _ g e _=>⟨o.slots,k b o g e⟩) (λ_ _ _ _ n=>n)
  (λb o g e=>⟨o,k b o g e⟩) (λ_ _ e=>e) (λ_ _ _ e=>e) (λb F e=>⟨#[],by rw[e];simp⟩) (λm y=>?_) (λb u e=>?_) I.bare
 ·refine Ò (j b hb) λC f1 E t w x=>?_;lia
 ·refine Ï y λo p l A r=>?_;exact⟨o,p,l,k _ o (λz=>(j _ z).2.1 gL) A,r⟩
 ·refine(I.hok b u e).stay (λc v g q=>k c v ?_ q) (λ_ q=>q) λ_ _ q=>q;grind
def dL.turnedNew{F:Nat}{i:List à}{T:à}{o:HO}(I:dL X a f H s)(j:∀b∈i,DR X a H b)(k:∀b u,b∉i->s.heap.get? b=wz u->d.get? b=wz u)(p:s.heap.objs.size<=T)(new:jF X.prog X.w (eS H T o) d T o) :
  dL X a f (eS H T o) { s with heap:=d,toks:=F }:=by
 have h:∀b u,H b=wz u->b∉i:=λb u e z=>by rw[(j b z).1]at e;cases e
 have ne:∀b u,H b=wz u->(eS H T o) b=wz u:=λb u e=>by rw[bZ (eU e (I.hok.fresh p))];exact e
 have l:∀b u,s.heap.get? b=wz u->b≠T:=λb u e z=>by
  exact b9 (cA (bC e) p) (by lia)
 refine I.step (λb hb=>?_) (λb o _ _ g e _=>k b o g e) (λb o _ _ g e _=>⟨o.slots,k b o g e⟩) (λb u _ e n=>by rw[bZ (l b u e)];exact n)
  (λb o g e=>⟨o,k b o g e⟩) (λb G e=>ne _ _ e) (λb u v e=>ne _ _ e) (λb L e=>⟨#[],by grind⟩) (λm C=>?_) (λb u e=>?_) I.bare
 ·refine Ò (j b hb) λJ f1 K y A B=>?_;lia
 ·refine Ï C λo x t E r=>?_;exact⟨o,x,t,k _ o (λz=>(j _ z).2.1 gL) E,r⟩
 ·by_cases hb:b=T
  ·subst hb;rw[bU]at e;lia
  ·rw[bZ hb]at e;refine(I.hok b u e).stay (λc v g q=>k c v ?_ q) (λc q=>ne _ _ q) (λc G q=>ne _ _ q) λc ob v q=>ne _ _ q;grind
end
noncomputable def Il(c d:Hp->List V->Prop):It:=
 ⟨λi H=>∃a b x y,c H a/\d H b/\a[i]?=wz x/\b[i]?=wz y,
  λi H v e=>∃p x y,H p=wy/\v=.ref p/\e=eS H p (.tup [x,y])/\(∀a,c H a->a[i]?=wz x)/\∀b,d H b->b[i]?=wz y,
  λi H=>∃a b,c H a/\d H b/\(a.length<=i\/b.length<=i)⟩
structure Src(P:cO)(w:f8)(K:aH)(S:Hp->List V->Prop)(src:Array á->ç->Prop):Prop where
 vals:∀(X:Cx),X.prog=P->X.w=w->X.K=K->∀{pins:List (à×Obj)}{σ:St}{H:Hp}{s:ã}{xs:List V},dL X pins σ H s->S H xs->∃bt:List á,fN xs bt/\src bt.toArray s.heap
 inj:∀(X:Cx),X.prog=P->X.w=w->X.K=K->∀{pins:List (à×Obj)}{σ:St}{H:Hp}{s:ã}{xs ys:List V},dL X pins σ H s->S H xs->S H ys->xs=ys
def RY{K}(a:à):Src P w K (λH xs=>tI K H a xs) (λbt h=>h.IsTuple a bt) where
 vals:=λX hP hw hK _ _ _ _ _ I h=>by subst hK;refine Å (I.tuple h) λbt r p _=>?_;exact⟨bt,r,p⟩
 inj:=λX hP hw hK _ _ _ _ _ _ I h h'=>by subst hK;exact I.tuple_inj h h'
def XL{P:cO}{w:f8}{K:aH}{ay:List æ}{x1:Nat}{pos:Pos}{z TI TO i1 i2 l1 l2:à}{ph jw:Nat->ç->Prop}{lh li:Array á->ç->Prop}{S1 S2:Hp->List V->Prop}
  (d1:rX P w i1 l1 ph lh) (d2:rX P w i2 l2 jw li) (e1:Src P w K S1 lh) (e2:Src P w K S2 li) (D:ev z TI TO i1 i2 l1 l2) :
  OJ P w K (.Tuple ay x1 pos) (Il S1 S2) [z,TI,TO,i1,i2] z (λi h=>fx h z TI TO .none/\IsPair h TI (.ref i1) (.ref i2)/\(∃a b,IsPair h TO a b)/\ph i h/\jw i h) where
 mem:=by simp
 obj:=λi h st b hb=>by
  obtain⟨hz,gy,⟨a,c,ik⟩,h1,h2⟩:=st;simp only[aQ,cP,i6]at hb;rcases hb with rfl | rfl | rfl | rfl | rfl
  ·exact⟨_,hz,λv q=>by cases q⟩
  ·exact⟨_,gy,λv q=>by cases q⟩
  ·exact⟨_,ik,λv q=>by cases q⟩
  ·exact d1.has i h h1
  ·exact d2.has i h h2
 keep:=λi h h' st k=>by
  obtain⟨hz,gy,⟨a,b,ik⟩,h1,h2⟩:=st;exact⟨k z gC _ hz,k TI gC _ gy,⟨a,b,k TO gC _ ik⟩,d1.stAt _ _ _ h1 λo e=>k i1 gC o e,d2.stAt _ _ _ h2 λo e=>k i2 gC o e⟩
 item:=by
  intro X hP hw hK hc i pins s σ H E I hf st hg;obtain⟨hz,gy,⟨a,b,ik⟩,h1,h2⟩:=st;refine ù hg λxs ys x y s1 s2 hx hy=>?_;refine Â (e1.vals X hP hw hK I s1) λus r1 q1=>?_;refine Â (e2.vals X hP hw hK I s2) λvs r2 q2=>?_;refine Â (r1.get hx) λu hu ru=>?_;refine Â (r2.get hy) λv hv rv=>?_;refine W8 d1 d2 D hz gy ik h1 h2 q1 q2 (by simpa using hu) (by simpa using hv) λh' a1 a2 a3 a4 a5 a6 a7=>⟨_,gL,?_⟩;refine wpAny_letOwnedTupleGo_zip a1 λiu ue sb=>?_;have neT:∀c o,s.heap.get? c=wz o->c≠s.heap.objs.size:=λc o e=>cU (bC e)
  have kk:∀c o,c∉[z,TI,TO,i1,i2]->s.heap.get? c=wz o->iu.get? c=wz o:=λc o aj e=>by
   simp only[aQ,cP,i6,not_or]at aj;exact sb.extBut _ _ aj.1 (a7 c o aj.1 aj.2.2.1 aj.2.2.2.1 aj.2.2.2.2 e)
  have hT:=sb.extBut _ _ (iP (bC hz)) a5;have I1:dL X pins σ (eS H s.heap.objs.size (.tup [x,y])) { s with heap:=iu }:=I.turnedNew hf kk (aP _) ⟨(by show 2<=bN;decide),[u,v],.cons ru (.cons rv .nil),⟨_,hT,gL,_,gL,gL⟩⟩;refine⟨.ref s.heap.objs.size,_,I1,gL,⟨_,x,y,I.hok.fresh (aP _),gL,gL,λwm h'=>by rw[e1.inj X hP hw hK I h' s1];exact hx,λwn h'=>by rw[e2.inj X hP hw hK I h' s2];exact hy⟩,?_,λc aj=>?_⟩
  ·exact⟨ue,sb.extBut _ _ D.TIz (a7 _ _ D.TIz D.TITO D.TIi1 D.TIi2 gy),⟨_,_,sb.extBut _ _ D.TOz a2⟩,d1.stAt _ _ _ a3 λo e=>sb.extBut _ _ D.i1z e,d2.stAt _ _ _ a4 λo e=>sb.extBut _ _ D.i2z e⟩
  ·have di:c≠s.heap.objs.size:=by
    simp only[aQ,cP,i6]at aj;rcases aj with rfl | rfl | rfl | rfl | rfl
    ·exact neT _ _ hz
    ·exact neT _ _ gy
    ·exact neT _ _ ik
    ·refine Â (d1.has _ _ h1) λo e _=>?_;exact neT _ _ e
    ·refine Â (d2.has _ _ h2) λo e _=>?_;exact neT _ _ e
   rw[bZ di];exact(hf c aj).1
 done:=by
  intro X hP hw hK hc i pins s σ H E I hf st hg;obtain⟨hz,gy,⟨a,b,ik⟩,h1,h2⟩:=st;refine Í hg λxs ys s1 s2 lj=>?_;refine Â (e1.vals X hP hw hK I s1) λus r1 q1=>?_;refine Â (e2.vals X hP hw hK I s2) λvs r2 q2=>?_;have n1:=r1.length;have n2:=r2.length;refine aCr (I.ok.hd hc) d1 d2 D hz gy ik h1 h2 q1 q2 ?_ λh' a7=>⟨gL,I.turnedL hf λc o aj e=>?_⟩
  ·rcases lj with q | q
   ·exact .inl (pH (by rw[bL];lia))
   ·exact .inr (pH (by rw[bL];lia))
  ·simp only[aQ,cP,i6,not_or]at aj;exact a7 c o aj.1 aj.2.2.1 aj.2.2.2.1 aj.2.2.2.2 e
 self:=λA i s Q E st h=>wpAny_pyIter_zip st.1 h
noncomputable abbrev yd(c1:String)(h:ç)(a:à):Heap:=h.push { cls:=.type c1,data:=.fields #[.ref a,.int 0 0] }
noncomputable abbrev yc(c1 a:String)(h:ç)(b c:à):Heap:=(yd c1 h b).push { cls:=.type a,data:=.fields #[.ref c,.int 0 0] }
noncomputable abbrev yb(c1 b:String)(h:ç)(a c:à):Heap:=(yc c1 b h a c).push { cls:=.type "tuple",data:=.seq #[.ref h.objs.size,.ref (yd c1 h a).objs.size] }
noncomputable abbrev ya(c1 a:String)(h:ç)(b c:à):Heap:=(yb c1 a h b c).push { cls:=.type "tuple",data:=.seq #[.none,.none] }
noncomputable abbrev xl(c1 a:String)(h:ç)(b c:à):Heap:=(ya c1 a h b c).push { cls:=.type "zip",data:=.fields #[.none,.bool ww,.bool ww,.ref (yc c1 a h b c).objs.size,.ref (yb c1 a h b c).objs.size] }
def O3(a b:à)(m j:Array á) :
  Meets (bg.«zip.__new__» ⟨[.type "zip",.ref a,.ref b],[]⟩) (λ_ R s=>s.heap.IsTuple a m/\s.heap.IsTuple b j /\
   R (.ok (.ret (.ref (ya "tuple_iterator" "tuple_iterator" s.heap a b).objs.size))) { s with heap:=xl "tuple_iterator" "tuple_iterator" s.heap a b }):=
 .of_wp λprog w A R s h=>by
  obtain⟨k,g,d,l,os⟩:=s;refine ñ h λe f h=>?_;have i:=sub_zip;have c:aMd (Shared.heap ⟨k.push { cls:=.type "tuple_iterator",data:=.fields #[.ref a,.int 0 0] },g,d,l,os⟩) b j:=aMd.push f _
  wp_walk using cf e,cf c
  exact⟨_,gL,h⟩
section
variable{P:cO}{w:f8}{A:e6}{E:á->ã->Prop}{s:ã}
def OC{a b:à}{Q:á->ã->Prop}(f:s.heap.IsTuple a xs)(g:s.heap.IsTuple b ys)
  (h:∀d,fx d (s.heap.objs.size+4) (s.heap.objs.size+2) (s.heap.objs.size+3) .none->IsPair d (s.heap.objs.size+2) (.ref s.heap.objs.size) (.ref (s.heap.objs.size+1)) ->
   IsPair d (s.heap.objs.size+3) .none .none->d.IsTupleIter s.heap.objs.size a 0->d.IsTupleIter (s.heap.objs.size+1) b 0 ->
   (∀c o,s.heap.get? c=wz o->d.get? c=wz o)->Q (.ref (s.heap.objs.size+4)) { s with heap:=d }) :
  å (ä P w) A (call (.type "zip") [.ref a,.ref b]) Q E s:=by
 refine callType_new F.called_zip cS (F.typeCall_zip_2 _ _) (F.newCall_zip_2 _ _) (λobj=>F.args_object_init_3 obj _ _) F.entry_zip_new (O3 a b xs ys) ⟨f,g,?_⟩;have n1:(yd "tuple_iterator" s.heap a).objs.size=s.heap.objs.size+1:=fL ..;have i:(yc "tuple_iterator" "tuple_iterator" s.heap a b).objs.size=s.heap.objs.size+2:=by rw[fL,n1]
 have n3:(yb "tuple_iterator" "tuple_iterator" s.heap a b).objs.size=s.heap.objs.size+3:=by rw[fL,i]
 have m:(ya "tuple_iterator" "tuple_iterator" s.heap a b).objs.size=s.heap.objs.size+4:=by rw[fL,n3]
 have e:(xl "tuple_iterator" "tuple_iterator" s.heap a b).get? (ya "tuple_iterator" "tuple_iterator" s.heap a b).objs.size=wz _:=bA _ gL;have l:(xl "tuple_iterator" "tuple_iterator" s.heap a b).get? (yb "tuple_iterator" "tuple_iterator" s.heap a b).objs.size=wz _:=aK _ (bA _ gL);have k:(xl "tuple_iterator" "tuple_iterator" s.heap a b).get? (yc "tuple_iterator" "tuple_iterator" s.heap a b).objs.size=wz _:=aK _ (aK _ (bA _ gL));have j:(xl "tuple_iterator" "tuple_iterator" s.heap a b).get? (yd "tuple_iterator" s.heap a).objs.size=wz _:=aK _ (aK _ (aK _ (bA _ gL)));rw[i,n3,m]at e;rw[n1,i]at k;rw[n3]at l;rw[n1]at j;rw[m];exact⟨⟨_,e,gL⟩,h _ e k l ⟨_,(aK _ (aK _ (aK _ (aK _ (bA _ gL))))),gL,gL⟩ ⟨_,j,gL,gL⟩ λc o x=>aK _ (aK _ (aK _ (aK _ (aK _ x))))⟩
end
def aBo:d9 "zip"=wz (.type "zip"):=by rfl
def Cu(K:aH)(e:TA):TI:=λg H R=>e g H λvs b=>∃c d a f,vs=[.ref c,.ref d]/\tI K b c a/\tI K b d f/\R (Il (λH a=>tI K H c a) λH a=>tI K H d a) b
section
variable{X:Cx}
def Wt{T:Nat}(E:Gl X "zip")(G:X.mg "zip"=wy)(C:PA X [a,b] ta)(J:autoParam (bV [a,b] X.env=[(ww,è a X.env),(ww,è b X.env)]) zzz._auto_1)(f:autoParam (bV [b] X.env=[(ww,è b X.env)]) zzz._auto_1) :
  PI X (.Tuple ay T tpos) (.Call (.Name "zip" p) [a,b] [] pos) (Cu X.K ta):=by
 intro g s W H R I h;refine Call_ (zL I E G aBo (l3 (jE (C pos g s W H _ I h) λZ d U=>?_) (by rw[J,f]) (by rw[f];rfl)));refine Í U λvs B e P N=>?_;refine ù N λo t xs ys Z m n q=>?_;subst Z
 cases P with
 |cons r u=>
  cases u with
  |cons O u=>
   cases u;cases r;cases O;refine Å (e.tuple m) λv Q z L=>?_;refine Å (e.tuple n) λw S A M=>?_;refine OC (show d.heap.IsTuple o v.toArray from z) (show d.heap.IsTuple t w.toArray from A) λY y i j k l F=>wpAny_pyIter_zip y ?_;refine⟨_,[d.heap.objs.size+4,d.heap.objs.size+2,d.heap.objs.size+3,d.heap.objs.size,d.heap.objs.size+1],_,_,B,gL,e.kept F,XL (JP _ o) (JP _ t) (RY o) (RY t) (zipApart_new z.lt A.lt),⟨y,i,⟨_,_,j⟩,k,l⟩,λc x=>?_,q⟩;simp only[aQ,cP,i6]at x;have le:d.heap.objs.size<=c:=by rcases x with rfl | rfl | rfl | rfl | rfl<;>first | exact aP _ | exact aF2 _ _
   exact e.fpOk le (e.hok.fresh le)
end
end L2
namespace TL
open L2
variable{K:aH}
noncomputable def EN(a bs:List D):List D:=(a.zip bs).map λp=>.tuple [p.1,p.2]
def zZ(a bs:List D):(EN a bs).length=min a.length bs.length:=by unfold EN;simp
def MQ{bs}{i:Nat}(h:(EN as bs)[i]?=wz x):∃a b,as[i]?=wz a/\bs[i]?=wz b/\x=.tuple [a,b]:=by
 unfold EN at h;rw[aO]at h
 cases e:(as.zip bs)[i]? with
 |none=>rw[e]at h;cases h
 |some p=>
  rw[e]at h;obtain⟨c,d⟩:=kF.mp e;exact⟨p.1,p.2,c,d,(c7 h).symm⟩
def Mr(t:AT):IT:=λc Q=>t c λb=>∃a bs,b=[.tuple a,.tuple bs]/\Q (EN a bs)
section
variable{X:Cx}{a b:æ}
def Vn{m:Nat}(w:yA X [a,b] t)(I:∀{ta},PA X [a,b] ta->PI X (.Tuple ay m tpos) (.Call (.Name "zip" p) [a,b] [] p') (Cu X.K ta)):T9 X (.Tuple ay m tpos) (.Call (.Name "zip" p) [a,b] [] p') (Mr t):=by
 refine Â w λva E O=>?_;refine⟨_,I E,λB C H F f U Q R o h k=>O B C H F f U _ _ o h λZ xs n P d J=>?_⟩;refine Î J λY bs Z q=>?_;subst Z
 cases d with
 |cons d L=>
  cases L with
  |cons M N=>
   cases N
   cases d with
   |@tuple p1 us _ gi rs1=>
    cases M with
    |@tuple p2 vs _ jv rs2=>
     have n1:=rs1.length;have n2:=rs2.length;refine⟨p1,p2,us,vs,gL,bF.seqT bX gi,bF.seqT bX jv,k _ _ n P ⟨λi H e c=>?_,λi H e c=>?_,λi H G y W live e c A=>?_⟩ q⟩
     ·rw[zZ]at c;exact⟨us,vs,bF.seqT e gi,bF.seqT e jv,eH⟩
     ·rw[zZ]at c;exact⟨us,vs,us[i],vs[i],bF.seqT e gi,bF.seqT e jv,aL eH,aL eH⟩
     ·refine Ú A λp x y' l Z V u v=>?_;subst Z V;refine Â (rs1.get' (u us (bF.seqT (e.trans bX) gi))) λg r S=>?_;refine Â (rs2.get' (v vs (bF.seqT (e.trans bX) jv))) λj s T=>?_;refine⟨dN l,.tuple [g,j],?_,uO live l (.cons (S.same e) (.cons (T.same e) .nil))⟩;unfold EN;rw[aO,(kF (z:=(g,j))).mpr ⟨r,s⟩];rfl
end
section
variable{g:List (Option Nat)}{j:IT}{i:ET}{e:List Sl}{Q:D->Prop}{ts:List D}
def BU{f:Type}(l:List f)(a b c d:f):(((l.set 0 a).set 1 b).set 0 c).set 1 d=(l.set 0 c).set 1 d:=by
 match l with
 |[]=>rfl
 |[_]=>rfl
 |_::_::_=>rfl
def LF(l:wP j e ts)(f:D->D)(t:ts.length<=100000)(p:∀x∈ts,∃a b,x=.tuple [a,b])(s:∀a b q,.tuple [a,b]∈ts->q (f (.tuple [a,b]))->i (((jZ g e).set 0 (.val a)).set 1 (.val b)) q)(r:Q (.list (ts.map f))):WR g j (gP 0 1) DA i e Q:=by
 refine l _ ⟨t,λk c d=>(∀x y,(c.set 0 (.val x)).set 1 (.val y)=((jZ g e).set 0 (.val x)).set 1 (.val y))/\d=(ts.take k).map f,⟨λ_ _=>rfl,gL⟩,λk x c d n h=>?_,λc d h=>?_⟩
 ·refine Ä h λo z=>?_;subst z;have m:=aZ n;refine À (p x m) λa b z=>?_;subst z;refine⟨a,b,gL,?_⟩;rw[o a b];refine s a b _ m ⟨λx y=>BU _ _ _ _ _,?_⟩;rw[dD,n,cC];rfl
 grind
end
end TL
namespace L2
open PySem.SeqAt
open AutoSeq1 (wpAny_loadPart')
def G6(l:à)(a:Array á)(n:Nat)(v:Option à)(I:Array (Option á))(x:á)(e:á->Bool)(j:Nat)(K:j<a.size)(r:e a[j]=wx)(t:∀m L,m<j->e a[m]=ww) :
  Meets (bg.«tuple.index» ⟨[.ref l,x],[]⟩)
   (λA R s=>s.heap.get? l=wz { cls:=.type "tuple",dict:=v,data:=.seq a n,slots:=I }/\(∀y,y∈a->EqAt A.in1 s y x (e y))/\R (.ok (.ret (.int j s.toks))) { s with toks:=s.toks+1 }):=by
 intro prog w A R s h;obtain⟨H,g,d,J,os⟩:=s;refine ñ h λG C h=>?_;unfold bg.«tuple.index»;simp only[Std.Legacy.Range.forIn_eq_forIn_range']
 wp_walk using eg G
 have B:([:min a.size a.size]:Std.Legacy.Range).size=a.size:=by simp[Std.Legacy.Range.size]
 rw[B];refine wpAny_forIn_list _ (λjM b u=>b=(wy,())/\u=⟨H,g,d,J,os⟩/\∃k,jM=UH k (a.size-k)/\k<=j) _ (λi jM b u p=>?_) (λb u p=>?_) _ _ ⟨gL,gL,0,gC,dA _⟩
 ·refine Ø p λZ Y k o F=>?_;subst Z Y;have c:k<a.size:=by lia
  have z:a.size-k=(a.size-(k+1))+1:=by lia
  rw[z,aCo]at o;refine Ä (l4 o) λZ Y=>?_;subst Z Y;have E:a[i]?=wz a[i]:=by simp[c]
  rw[E];refine aG (C _ (Array.getElem_mem c) prog w _ _ ?_);by_cases q:i=j
  ·subst q;rw[r,b7 rfl]
   wp_walk
   exact h
  ·have f:i<j:=by lia
   rw[t i c f,a8 cS];exact bB ⟨gL,gL,i+1,gL,f⟩
 ·obtain⟨_,_,k,o,F⟩:=p;have:=d8 iT o;simp at this;lia
end L2
namespace TL
open L2 PySem.SeqAt
section
variable{X:Cx}{e:æ}{a:List æ}{b c:ET}{pos:Pos}
def U7(f:List D)(d:D)(j:Nat):Prop:=eA f=wx/\d.canLay0=wx/\min (eP f) d.depth<=60/\(∃t,f[j]?=wz t/\dW t d=wx)/\∀m t,m<j->f[m]?=wz t->dW t d=ww
def PN(K:aH):V->List V->Hp->VK->Prop:=λx g H Q=>∃y f d j,g=[y]/\gW K H (.tuple f) x/\gW K H d y/\U7 f d j/\Q (.int j) H
def VG(P:X.A.units+200<v7):OY X "tuple.index" (PN X.K):=by
 intro G s σ H x xs v us Q I Z Y h;obtain⟨y,g,d,j,rfl,T,U,⟨c1,z,k,⟨t,E,N⟩,r⟩,q⟩:=h;refine Â Y.one λu e W=>?_;subst e;refine Ã (gW.reads I (show(gX g).hasDict=ww from noDictAll c1) T Z) λas L=>?_;refine Ã (gW.reads I (nU z) U W) λbs M=>?_
 cases L with
 |@tuple l o items n _ as' h3 h4 h5 h6=>
  have f:=gk g items.toList _ c1 h6;have C:items.size=g.length:=by rw[<- f,aC,eZ]
  have O:=(aJ.mp E).1;have B:j<items.size:=by lia
  have J:∀(m:Nat)(k:m<items.size),g[m]?=wz (gj s.heap items[m]):=λm k=>by
   rw[<- f,aO];simp[k]
  obtain⟨oc,R,S,w⟩:=o;cases h4;cases h5;refine u4 F.slot_tuple_index ⟨_,h3,gL⟩ F.entry_tuple_index (F.args_tuple_index_2 _ _) (G6 _ items _ R w u (λy=>dW (gj s.heap y) d) j B ?_ ?_) ⟨h3,iy h6 M c1 z (by have:=P;lia),?_⟩
  ·have:=J j B;rw[E]at this;rw[<- c7 this];exact N
  ·intro m p i;exact r m _ i (J m p)
  ·exact⟨.int j,H,I.tok _,⟨_,gL⟩,q⟩
def FQ{k:Nat}(d:iF k X.A):OY X "tuple.index" (PN X.K):=VG (by have:=d.un;lia)
def Vb(b:ET)(t:AT):ET:=λg Q=>b g λd=>∃f,d=.tuple f/\t g λh=>∃x j,h=[x]/\U7 f x j/\Q (.int j)
def GB(z:fP X n b)(y:yA X (e::a) t)
  (C:∀{v c},PE X n v->PA X (e::a) c->PE X (.Call (.Attribute n "index" ap) (e::a) [] pos) (RQ X.K "tuple" (PN X.K) v c)):fP X (.Call (.Attribute n "index" ap) (e::a) [] pos) (Vb b t):=by
 refine Â z λv E N=>?_;refine Â y λS A M=>?_;refine⟨_,C E A,λB i H l f s Q P o h k=>N B i H l f s _ _ o h λd x u m G g=>?_⟩;obtain⟨O,rfl,g⟩:=g
 cases G with
 |@tuple p xs _ hq rs=>
  refine⟨.inr (.inl ⟨gL,.inr ⟨_,bF.seqT bX hq⟩⟩),M B i u l f s _ _ (o.grow m) g λR T w r I F=>?_⟩;refine Í F λd j Z hok q=>?_;subst Z
  cases I with
  |cons J L=>
   cases L;exact⟨_,O,d,j,gL,(gW.tuple hq rs).same ((bR r).trans bX),J.same bX,hok,k _ _ w (m.trans r) (.int _) q⟩
end
section
variable{K:aH}{H a:Hp}{B:Hp}{f c:List à}{d:List Sl}{g:L2.St}
noncomputable def without(H:Hp)(p:à):Hp:=λb=>if b=p then wy else H b
def AC{p:à}:ê (without H p) c=ê H (p::c):=by
 funext b;unfold ê without;grind
def uK{p:à}(s:bF H a)(h:H p=wy):bF H (without a p):=λb o e=>by
 unfold without;rw[a8 λz=>by lia];exact s b o e
def CS{p:à}(e:H p=wz u):eS (without H p) p u=H:=by
 funext b;by_cases h:b=p
 ·subst h;rw[bU,e]
 ·rw[bZ h];unfold without;rw[a8 h]
def bF.free'(s:bF H a){p:à}(h:a p=wy):H p=none:=by
 cases q:H p with
 |none=>rfl
 |some u=>rw[s p u q]at h;cases h
def Ok.takeOwn(o:Ok K B f H c d g){i:Nat}{p:à}(s:bF H a)(e:H p=wy)(h:a p=wz (.lst xs))(r:Reps K (ê a (p::c)) ts xs) :
  Ok K B f a (p::c) (d.set i (.own ts)) (g.set i (wz (.ref p))):=by
 have b:without a p p=none:=by unfold without;rw[b7 rfl]
 have:=(o.grow (uK s e)).setOwn (i:=i) b (by rw[AC];exact r)
 rwa [CS h]at this
end
section
variable{X:Cx}{a b c e:æ}{G:List æ}{C u l:ET}{pos:Pos}
abbrev FT:=List Sl->(List D->Prop)->Prop
def Q7(X:Cx)(e:æ)(t:FT):Prop:=∃l,PE X e l/\∀B m H h d k Q g,Ok X.K B m H h d k->t d Q ->
 (∀i p j f,bF H f->H p=wy->f p=wz (.lst j)->Reps X.K (ê f (p::h)) i j->Q i->g (.ref p) f)->l k H g
def Jn(t:FT):ET:=λf Q=>t f λd=>Q (.list d)
def GC(h:Q7 X e t):fP X e (Jn t):=by
 refine Â h λv p r=>?_;refine⟨_,p,λB m H n d w Q x o h k=>r B m H n d w _ _ o h λy p z f s g j rs q=>k _ _ f s ?_ q⟩;exact .list (pE.of (lN (jA o.live g) j)) (rs.same (gO λq i=>aE _ i))
def J4(t:AT):FT:=λf Q=>t f λd=>d.length<=1000/\Q d
def Wl(h:yA X G t):Q7 X (.List G pos) (J4 t):=by
 refine Â h λv p r=>?_;refine⟨_,PX p,λB n H s f x Q z o h k=>r B n H s f x _ _ o h λm w y j i g=>⟨uU (by rw[<- i.length];exact g.1),λq d=>?_⟩⟩;exact k m q w _ (j.trans (dN d)) (bF.free' j d) bU (by rw[oS d];exact i) g.2
def Dy(C u:ET):FT:=λf Q=>C f λx=>u f λy=>∃d bs,x=.list d/\y=.list bs/\d.length+bs.length<=100000/\Q (d++bs)
def Wk(z:fP X a C)(hb:fP X b u):Q7 X (.BinOp a .Add b pos) (Dy C u):=by
 refine Â z λU E M=>?_;refine Â hb λW F N=>?_;refine⟨_,IJ K5 E F,λB j H m d s Q P o h k=>M B j H m d s _ _ o h λS x t i K I=>?_⟩;refine N B j t m d s _ _ (o.grow i) I λT y O f L J=>?_;refine Ñ J λR bs l e A q=>?_;subst l e
 cases K with
 |list v n=>
  cases L with
  |list w r=>
   refine⟨_,_,_,_,gL,gL,L2.bF.seq ((bR f).trans bX) v,L2.bF.seq bX w,AV (by rw[<- n.length,<- r.length];exact A),λp g=>?_⟩;exact k _ p _ _ ((i.trans f).trans (dN g)) (bF.free' (i.trans f) g) bU (by rw[oS g];exact(n.same (bR f)).append r) q
def Ml(i:Nat)(u:ET):FT:=λf Q=>∃d,f[i]?=wz (.own d)/\u f λy=>∃bs,y=.list bs/\d.length+bs.length<=100000/\Q (d++bs)
def TH{i:Nat}(w:PE X n (pD i))(hb:fP X b u):Q7 X (.BinOp n .Add b pos) (Ml i u):=by
 refine Â hb λS A I=>?_;refine⟨_,IJ K5 w A,λB z H E j K Q M o h k=>?_⟩;refine Â h λJ e h=>?_;refine í (o.own i J e) λq T t O P R v m=>?_;refine⟨.ref q,t,I B z H E j K _ _ o h λN y L d F g=>?_⟩;obtain⟨bs,rfl,x,g⟩:=g
 cases F with
 |list s r=>
  refine⟨_,_,_,_,gL,gL,pE.of (d _ _ v),L2.bF.seq bX s,AV (by rw[<- m.length,<- r.length];exact x),λp f=>?_⟩;exact k _ p _ _ (d.trans (dN f)) (bF.free' d f) bU (by rw[oS f];exact(m.same (bR d)).append r) g
def yo(m:List (Option Nat))(n:IT)(g:GT)(o:yN)(l:ET):FT:=λj Q=>n j λi=>i.length<=100000/\∃P:Nat->List Sl->List D->Prop,P 0 (jZ m j) [] /\
 (∀k x d h,i[k]?=wz x->P k d h->g x d λf=>o f λb=>if b=wx then l f λy=>P (k+1) f (h++[y])else P (k+1) f h)/\∀d h,P i.length d h->Q h
def Jq(Q:List D->Prop)(d:D):Prop:=match d with | .list ds=>Q ds | _=>False
def Ih{l}{Q:List D->Prop}(h:WR fr ti g tt l σ (Jq Q)):yo fr ti g tt l σ Q:=h
def Ze{iter l}(I:T9 X tg iter ti)
  (F:∀b,OX (blk X scope N' b) tg g/\HD (blk X scope N' b) ifs tt/\fP (blk X scope N' b) elt l) {M:(TE)->Prop}
  (fin:∀{A}{s:BP->TG}{z:BP->TT}{y:BP->TE},PI X tg iter A->(∀b,PG (blk X scope N' b) tg (s b)/\UA (blk X scope N' b) ifs (z b)/\PE (blk X scope N' b) elt (y b))->M (hG fr A s z y)) :
  ∃v,M v/\∀B t H i d m Q n,Ok X.K B t H i d m->yo fr ti g tt l d Q ->
   (∀x p j f,bF H f->H p=wy->f p=wz (.lst j)->Reps X.K (ê f (p::i)) x j->Q x->n (.ref p) f)->v m H n:=by
 refine Â I λA O R=>?_;refine Ï (Ic fr F) λs z y p r=>?_;exact⟨_,fin O p,λB t H i d m Q n o h k=>R B t H i d m _ _ o h λx J U w S P=>r (o.grow w) S P λE p j f T L N rs q=>k E p j f (w.trans T) (bF.free' w L) N rs q⟩
def Mn{iter l}(j:T9 X tg iter ti)
  (i:∀b,OX (blk X scope N' b) tg g/\HD (blk X scope N' b) ifs tt/\fP (blk X scope N' b) elt l)
  (k:∀{wi}{d:BP->TG}{h:BP->TT}{f:BP->TE},PI X tg iter wi->(∀b,PG (blk X scope N' b) tg (d b)/\UA (blk X scope N' b) ifs (h b)/\PE (blk X scope N' b) elt (f b))->PE X (.ListComp elt [⟨tg,iter,ifs,0⟩] scope pos) (hG fr wi d h f)) :
  Q7 X (.ListComp elt [⟨tg,iter,ifs,0⟩] scope pos) (yo fr ti g tt l):=Ze j i k
abbrev WT:=List D->(List D->Prop)->Prop
def nS(K:aH)(k:WT):Sp:=λvs H Q _=>∃f h g,(∀p∈f,BM (H p))/\Reps K (ê H f) h vs/\k h g /\
 ∀i p j d,bF H d->H p=wy->d p=wz (.lst j)->Reps K (ê d (p::f)) i j->g i->Q (.ref p) d
def Dz(f:WT)(t:AT):FT:=λg Q=>t g λd=>f d Q
def Zv{k:Nat}{f:à}{pn}(F:nG X.prog X.w X.K X.mg X.base sC k f fd pn (nS X.K sp))(U:X.mg x=wz (.ref f))(T:gR X.K (.ref f)=wx)(hb:rY X.K fd pn [])
  (W:iF k X.A) (r:yA X (e::G) t) (I:∀{C},PA X (e::G) C->PE X (.Call (.Name x p) (e::G) [] pos) (HW (nS X.K sp) [] E0 C)):Q7 X (.Call (.Name x p) (e::G) [] pos) (Dz sp t):=by
 refine Â r λv E M=>?_;refine⟨_,I E,λB z H j i P Q S o h k=>M B z H j i P _ _ o h λn Y R d L J=>?_⟩;rw[cM];exact⟨j,n,Q,(o.grow d).live,L,J,λO p g m N s y rs q=>k O p g m (d.trans N) (bF.free' d s) y rs q⟩
def xc{K}{mg:â->Option á}{st}{f:à}{N pn:List â}{k:Nat}{o:WT}(F:OZ K x qual st f fd)(S:bS N pn (aV st))
  (j:∀{i}{A:e6}{outer}{s:ã}{H E},iF k (A.deeper (i7 qual (aV st) s.heap.objs.size f i))->N.Nodup->∀(g:List D)(Q:List D->Prop),o g Q ->
   ∃t,xZ (sV sC P w K mg base N qual (aV st) f i A outer s H E).nox (lO st) t/\t { nx:=λ_=>False,rt:=λ_=>False,ro:=Q } (kT N g)) (len:autoParam (∀g Q,o g Q->g.length=pn.length) zzm._auto_1):nG P w K mg base sC (k+1) f fd pn (nS K o):=by
 refine F.ok S (λvs H Q E h=>?_) λi A outer s H vs Q E B h=>?_
 ·refine ý h λn g m _ r q _=>?_;rw[<- r.length];exact len g m q
 ·refine ý h λn g m live r q k=>?_;obtain⟨t,⟨v,p,J⟩,h⟩:=j B S.nd g m q;exact⟨v,p,J H n H n _ _ _ _ (rS live r) h ⟨λ_ _ _ _ _ _ d=>d.elim,λ_ _ _ _ _ _ d=>d.elim,λ_ _ _ _ _ _ d=>d.elim,λ_ _ _ _ _ d=>d.elim,λv p M y L z O I rs d=>k v p M y L z I rs d,λ_ _ _ _ _ _ _ _ _ _ _ _ _ _ _ _ _ _ d=>d.elim,λ_ _ _ _ _ _ _ _ _ _ _ _ _ _ d=>d.elim,e7⟩⟩
def M2(i:Nat)(t:FT):zW:=λf d=>t d λg=>f.nx (d.set i (.own g))
def UT{i:Nat}{t:FT}{v:TE}(r:∀B m H g d k Q z,Ok X.K B m H g d k->t d Q ->
   (∀n p w j,bF H j->H p=wy->j p=wz (.lst w)->Reps X.K (ê j (p::g)) n w->Q n->z (.ref p) j)->v k H z)
  (B:Hp) (m:List à) (H:Hp) (g:List à) (d:List Sl) (k:L2.St) (x:DB) (y:aB4) (o:Ok X.K B m H g d k) (h:M2 i t x d) (f:RA X.K B m H g x y):xT v (nD i) y k H:=by
 refine r B m H g d k _ _ o h λn p w j s A E rs q=>?_;exact f.nx j (p::g) _ _ (o.takeOwn s A E rs) (by rw[<- AC];exact bR (uK s A)) q
def aDh{i:Nat}(h:Q7 X e t)(d:∀{v},PE X e v->PS X (.Assign [.Name x pos'] e pos) (xT v (nD i))):EI X (.Assign [.Name x pos'] e pos) (M2 i t):=by
 refine Â h λv p r=>?_;exact⟨_,d p,UT r⟩
def Gb(t:FT):zW:=λd f=>t f d.ro
def AH(h:Q7 X e t):EI X (.Return (wz e) pos) (Gb t):=by
 refine Â h λv p r=>?_;refine⟨_,B0 p,λB k H m d x y A o h f=>r B k H m d x _ _ o h λn p w i s g j rs q=>?_⟩;refine f.ro n p w i (o.base.trans s) (bF.free' o.base g) (λz=>jA o.live g (o.sub p z)) j (rs.same (gO λq hq=>?_)) q;rcases aQ.mp hq with rfl | hq
 ·exact aM ..
 ·exact aE _ (o.sub q hq)
def aDs(i:Nat):zW:=λf g=>∃d,g[i]?=wz (.own d)/\f.ro d
def IB{i:Nat}(s:PE X n (pD i)):EI X (.Return (wz n) pos) (aDs i):=by
 refine⟨_,B0 s,λB y H A v E w x o h f=>?_⟩;refine Â h λd e h=>?_;refine í (o.own i d e) λq t g j k m p r=>?_;refine⟨.ref q,g,f.ro d q t H o.base k m p (r.same (gO λz hz=>?_)) h⟩;rcases aQ.mp hz with rfl | hz
 ·exact j
 ·exact o.sub z hz
def X9(c:yN)(u:zW):zW:=λg h=>∃P:Nat->List Sl->Prop,(∃n,P n h)/\∀n d,P n d->c d λb=>if b=wx then u { g with nx:=λf=>∃m,m<n/\P m f,ct:=λf=>∃m,m<n/\P m f,bk:=g.nx } d else g.nx d
def EY{c u}(Y:ML X c tc)(hb:xZ X body u)(pw:∀{R Q},PT X c R->DP X body Q->PS X (.While c body [] pos) (XS R Q)):EI X (.While c body [] pos) (X9 tc u):=by
 refine Â Y λR pc rc=>?_;refine Â hb λQ pb rb=>?_;refine⟨_,pw pc pb,λB E H O S σ DT DV o h f=>?_⟩;obtain⟨P,⟨n0,W⟩,Z⟩:=h;refine⟨λn k A=>∃i d,Ok X.K B E A i d k/\bF (ê H O) (ê A i)/\P n d,⟨n0,O,S,o,L2.bF.refl _,W⟩,?_⟩;rintro n k A ⟨i,d,N,U,p'⟩;refine rc B E A i d k _ _ N (Z n d p') λb T I F=>?_;have q:=(f.later U).later (bR I);have w:=U.trans (bR I)
 cases b with
 |true=>
  rw[b7 rfl]at F |-
  refine⟨λy J=>∃m,m<n/\∃t p,Ok X.K B E J t p y/\bF (ê H O) (ê J t)/\P m p,λy J z=>z,?_⟩;exact rb B E T i d k _ _ (N.grow I) F ⟨λL j g r s x ⟨m,M,v⟩=>⟨m,M,j,g,s,w.trans x,v⟩,λL j g r s x v=>q.nx L j g r s x v,λL j g r s x ⟨m,M,v⟩=>⟨m,M,j,g,s,w.trans x,v⟩,q.rt,q.ro,q.rp,q.rq,q.xb⟩
 |false=>
  rw[a8 cS]at F |-
  exact q.nx T i d k (N.grow I) (L2.bF.refl _) F
def zy(i j k:Nat):GT:=λd f Q=>∃a b c,d=.tuple [a,b,c]/\Q (((f.set i (.val a)).set j (.val b)).set k (.val c))
def JF{i j k:Nat}(h:PG X t (Ak X.K 3 (JH (nD i) (JH (nD j) (JH (nD k) Aj))))):OX X t (zy i j k):=
 ⟨_,h,λB w H x q y d v Q s o r h k=>by
  obtain⟨a,b,c,rfl,h⟩:=h
  cases r with
  |@tuple p xs _ hq r=>
   cases r with
   |cons f r=>
    cases r with
    |cons g r=>
     cases r with
     |cons m r=>
      cases r;exact⟨_,_,gL,bF.seqT bX hq,gL,_,_,gL,_,_,gL,_,_,gL,gL,k _ _ (((o.set f).set g).set m) (λn=>rF (rF (rF n _ _) _ _) _ _) h⟩⟩
def Gc(l:ET)(g:GT):zW:=λh f=>l f λd=>g d f h.nx
def aDg(s:fP X e l)(t:OX X tg g)(y:∀{v j},PE X e v->PG X tg j->PS X (.Assign [tg] e pos) (xT v j)):EI X (.Assign [tg] e pos) (Gc l g):=by
 refine Â s λv z I=>?_;refine Â t λj pg J=>?_;refine⟨_,y z pg,λB n H k i q L M o h f=>I B n H k i q _ _ o h λd x m p F E=>?_⟩;exact J B n m k i q d x _ _ (o.grow p) F E λr K w _ A=>f.nx m k _ _ w (bR p) A
def Jm(c:yN)(C u:ET):ET:=λd Q=>c d λb=>if b=wx then C d Q else u d Q
def yJ(x:ML X c tc)(w:fP X a C)(hb:fP X b u):fP X (.IfExp c a b pos) (Jm tc C u):=by
 refine Â x λM A I=>?_;refine Â w λK y E=>?_;refine Â hb λL z F=>?_;refine⟨_,Y8 A y z,λB m H n f s Q J o h k=>I B m H n f s _ _ o h λd t i g=>?_⟩
 cases d with
 |true=>
  rw[b7 rfl]at g |-
  exact E B m t n f s Q _ (o.grow i) g λd v j r q p=>k d v j (i.trans r) q p
 |false=>
  rw[a8 cS]at g |-
  exact F B m t n f s Q _ (o.grow i) g λd v j r q p=>k d v j (i.trans r) q p
def Kb(d:D)(Q:D->Prop):Prop:=match d with
|.int i=>Q (.int i)
|.bool b=>Q (.int (if b then 1 else 0))
|_=>False
def EM:tY X (λf H Q=>(∃i,f=[.int i]/\Q (.int i) H)\/∃k,f=[.bl k]/\Q (.int (if k then 1 else 0)) H) (f1 Kb):=c1 λH j d x Q g live r h k=>by
 cases r with
 |int i=>exact .inl ⟨i,gL,k _ _ H (L2.bF.refl H) (.int _) h⟩
 |bool b=>exact .inr ⟨b,gL,k _ _ H (L2.bF.refl H) (.int _) h⟩
 |_=>exact h.elim
end
end TL
namespace L2
open PySem.SeqAt
open AutoSeq1 (wpAny_loadPart')
section
variable{X:Cx}{d:List (à×Obj)}{f:St}{H:Hp}{s:ã}{p:à}
def dL.retold(I:dL X d f H s)(h:H p=wz u)(k:∀g,u≠.tup g)(j:∀o v,u≠.frz o v)(nb:∀i,u≠.tbl i)(no:∀a,u≠.own a)(new:jF X.prog X.w (eS H p u') s.heap p u'):dL X d f (eS H p u') s:=by
 have ne:∀b v,H b=wz v->v≠u->eS H p u' b=wz v:=λb v e r=>by
  rw[bZ λz=>by rw[z,h]at e;exact r (c7 e).symm];exact e
 have fin:=I.step (t':=s.toks) (d':=s.drawn) (ch:=[]) (λb hb=>by cases hb) (λb o _ _ _ e _=>e) (λb o _ _ _ e _=>⟨o.slots,e⟩)
  (λb o _ e n=>by rw[bZ λz=>by rw[z,h]at n;cases n];exact n) (λb o _ e=>⟨o,e⟩) (λb g e=>ne _ _ e (λz=>k g z.symm)) (λb o v e=>ne _ _ e (λz=>j o v z.symm))
  (λb i e=>⟨#[],by grind⟩) (λm l=>l) (λb v e=>?_) I.bare
 ·exact fin
 ·by_cases hb:b=p
  ·subst hb;rw[bU]at e;lia
  ·rw[bZ hb]at e;exact(I.hok b v e).stay (λc w _ q=>q) (λc q=>ne _ _ q λz=>no b z.symm) (λc g q=>ne _ _ q λz=>k g z.symm) λc ob y q=>ne _ _ q λz=>j ob y z.symm
end
def QU(l:à)(c:Array á)(n:Nat)(b:à)(a:Array á)(o:Nat)(i:Option à)(p:Array (Option á))(j:¬(!c.isEmpty&&t9 (c.size+a.size))=wx)(k:c.size<=bN)(e:c.size+a.size<=bN+1) :
  Meets (bg.«list.extend» ⟨[.ref l,.ref b],[]⟩) (λ_ R s=>s.heap.get? l=wz { cls:=.type "list",dict:=wy,data:=.seq c n,slots:=#[] }/\s.heap.get? b=wz { cls:=.type "list",dict:=i,data:=.seq a o,slots:=p }/\R (.ok (.ret j9)) { s with heap:=s.heap.update l (e8 λx=>x++a),toks:=s.toks }):=
 .of_wp λprog w A R s h=>by
  obtain⟨v,g,d,y,os⟩:=s;refine ñ h λf hb h=>?_;have f1:=AutoSeq1.idx_int;have q:=AutoSeq1.sub_tuple_tuple;have r:=AutoSeq1.sub_list_list;have t:=AutoSeq1.sub_tuple_list;have u:=AutoSeq1.sub_list_tuple;have m:(c++a).size<=bN+1:=by rw[CP];exact e
  wp_walk using(wpAny_updateSeq f gL),eg f,eg hb
  exact⟨_,gL,h⟩
section
variable{X:Cx}
def Fp(K:aH):V->List V->Hp->VK->Prop:=λx vs H Q=>∃l b a c,x=.ref l/\vs=[.ref b]/\H l=wz (.lst a)/\pE K H b c/\a.length+c.length<=bN/\Q .non (eS H l (.lst (a++c)))
def SY:Ik X "list.extend" (Fp X.K):=by
 intro j s S H x vs v O Q I J G h;refine þ h λl b P R Z Y i p M q=>?_;subst Z Y;cases J;refine Â G.one λu Z E=>?_;subst Z;cases E;refine ó (I.lstM i) λz c n r L e=>?_;obtain⟨a,k,⟨o,A,m,t,w,hd⟩,z2⟩:=I.list p;have y:=k.length;have f:c.toArray.size+a.toArray.size<=bN:=by rw[bL,bL];lia
 have d:¬(!c.toArray.isEmpty&&t9 (c.toArray.size+a.toArray.size))=true:=by
  rw[ZS f,KA];exact bT
 obtain⟨N,B,C,g⟩:=o;cases t;cases hd;refine u4 F.slot_list_extend ⟨_,e,gL⟩ F.entry_list_extend (F.args_list_extend_2 _ _) (QU l c.toArray n b a.toArray A B g d (by rw[bL];lia) eH) ⟨e,m,?_⟩;refine⟨.non,_,I.lset i e gC (r.append k) ?_,gL,q⟩;rw[aR];lia
end
end L2
namespace TL
open L2
section
variable{X:Cx}{e:æ}{b a:ET}{pos:Pos}
def Ga(i:Nat)(a:ET):zW:=λh g=>∃c,g[i]?=wz (.own c)/\a g λd=>∃f,d=.list f/\c.length+f.length<=100000/\h.nx (g.set i (.own (c++f)))
def RW{i:Nat}{e a}(N:PE X n (pD i))(y:fP X e a)(z:autoParam (bV [e] X.env=(ww,è e X.env)::bV [] X.env) zzz._auto_1)
  (pb:∀{b},PA X [e] b->PS X (.Expr (.Call (.Attribute n "extend" ap) [e] [] cp) pos) (HV (RQ X.K "list" (Fp X.K) (pD i) b))):EI X (.Expr (.Call (.Attribute n "extend" ap) [e] [] cp) pos) (Ga i a):=by
 refine Â y λv p r=>?_;refine⟨_,pb (eF p kX z),λB C H s j u G I o h f=>?_⟩;refine Â h λF e h=>?_;refine í (o.own i F e) λq t k w L M l m=>?_;refine⟨.ref q,k,.inl ⟨gL,t,pE.of l⟩,r B C H s j u _ _ o h λd x J c E g=>?_⟩;obtain⟨O,rfl,A,g⟩:=g
 cases E with
 |@list p2 zs _ hq rs=>
  refine⟨q,p2,t,zs,gL,gL,c _ _ l,L2.bF.seq bX hq,AV (by rw[<- m.length,<- rs.length];exact A),?_⟩;exact f.nx _ s _ u ((o.grow c).write e k ((m.same (bR c)).append rs)) ((bR c).trans (by rw[fS w];exact L2.bF.refl _)) g
def wG{K}{mg:â->Option á}{k:Nat}{f:à}{pn}:nG P w K mg base sC k f fd pn (mS K λ_ _=>False):=
 ⟨λvs H Q E h=>by refine ý h λ_ _ _ _ _ h _=>?_;lia,λA outer s H c d vs Q E _ _ _ _ h=>by refine ý h λ_ _ _ _ _ h _=>?_;lia⟩
def F8{K}{mg:â->Option á}{k:Nat}{f:à}{pn}{i d:mO}(F:nG P w K mg base sC k f fd pn (mS K i))(h:∀c Q,d c Q->i c Q):nG P w K mg base sC k f fd pn (mS K d):=
 F.imp λvs H Q E z=>by refine ý z λo c g j l m n=>?_;exact⟨o,c,g,j,l,h c g m,n⟩
def Kw(d:D)(Q:D->Prop):Prop:=∃ns,d=.list (ns.map bW)/\ns≠[]/\∀m,m∈ns->(∀n∈ns,n<=m)->Q (.int m)
end
end TL
namespace L2
section
variable{X:Cx}
def yL(N:X.calm=wx):lV X (.builtin "max") (λL H Q=>∃p ns,L=[.ref p]/\pE X.K H p (ns.map V.int)/\ns≠[]/\∀m,m∈ns->(∀n∈ns,n<=m)->Q (.int m) H):=by
 intro F s σ H L us Q I r h;refine Ñ h λp ns D S g q=>?_;subst D;refine Â (nI r) λu D U=>?_;subst D;cases U;refine Å (I.list S) λa J G Y=>?_;have f:=J.length;rw[aC]at f;have C:=nT.mpr g
 have x:p≠s.heap.objs.size:=by
  refine Â G.isList λo y _=>?_;exact cU (bC y)
 have d:=G.isList
 have k:p<s.heap.objs.size:=by
  refine Â d λo y _=>?_;exact bC y
 have c:∀(i:Nat)(v:á),a.toArray[i]?=wz v->∃t,v=.int ((ns[i]?).getD 0) t:=λi v l=>by
  have E:a[i]?=wz v:=by simpa using l
  have w:=(aJ.mp E).1;have hb:i<ns.length:=by lia
  refine Â (J.get (by rw[aO,aL hb];rfl)) λw' B M=>?_;rw[E]at B;cases B;rw[aL hb];exact M
 refine call_max_walk (k7 d ?_);refine⟨_,_,_,_,_,_,_,gL,fh (A:=X.A.in1) (I.ok.hd N) _ p x a.toArray,⟨⟨_,bA _ gL,gL,gL⟩,d.push _⟩,λb hb=>?_,by rw[bL];lia,CmpOf.ints_gt (λi=>(ns[i]?).getD 0) c,λv W Z l P=>?_⟩
 ·rw[fL];have:b=s.heap.objs.size\/b=p:=by simpa using hb
  rcases this with rfl | rfl
  ·exact nN _
  ·exact uG k
 ·refine Ã (c _ _ l) λt D=>?_;subst D;have hb:=argBest_gt (λi=>(ns[i]?).getD 0) (a.toArray.size-1);have T:a.toArray.size=ns.length:=by rw[bL];lia
  have w:argBest (λi j=>decide ((ns[i]?).getD 0>(ns[j]?).getD 0)) (a.toArray.size-1)<ns.length:=by have:=hb.1;lia
  refine⟨.int _,H,I.kept λb o e=>P b o ?_ (aK _ e),⟨t,gL⟩,q _ ?_ λn R=>?_⟩
  ·intro z;have:b=s.heap.objs.size:=by simpa using z
   exact b9 (bC e) (by rw[this];exact fF _)
  ·rw[aL w];exact iY w
  ·obtain⟨j,O,rfl⟩:=yS.mp R;have:=hb.2 j eH;rw[aL O]at this;exact this
def Md(_ j:Int):Prop:=0<j/\j<2^200
def ND:pF X (j8 .FloorDiv) (rI Md λi j=>.int (i / j)):=yj λi j _ _ _ _ _ a q=>by
 have c:=a.1;have d:=a.2;have b:j.natAbs<2^200:=by lia
 have e:=(aUf eH).mpr b;exact floordiv_int eH (by rw[ME i eH];exact q) (.inl (PyProof.noPylong_of_log2 eH))
end
end L2
namespace TL
open L2
section
variable{X:Cx}{e:æ}
theorem F3{K}:∀ns:List Int,Reps K H (ns.map bW) (ns.map V.int)
|[]=>.nil
|n::ns=>.cons (.int n) (F3 ns)
def Fa:tY X (λf H Q=>∃p ns,f=[.ref p]/\pE X.K H p (ns.map V.int)/\ns≠[]/\∀m,m∈ns->(∀n∈ns,n<=m)->Q (.int m) H) (f1 Kw):=c1 λH i d x Q g live r h k=>by
 obtain⟨ns,rfl,a,h⟩:=h
 cases r with
 |list q s=>
  have e:=xA s;subst e;exact⟨_,ns,gL,L2.bF.seq bX q,a,λm b c=>k _ _ H (L2.bF.refl H) (.int _) (h m b c)⟩
end
section
variable{X:Cx}{e:æ}{a:List æ}{b c:ET}{pos:Pos}
abbrev Bp:=List Sl->(List D->List D->Prop)->Prop
def Bq(X:Cx)(e:æ)(t:Bp):Prop:=∃c,PE X e c/\∀B m H g f l Q h,Ok X.K B m H g f l->t f Q ->
 (∀i bs r p q j k d,bF H d->H r=wy->H p=wy->H q=wy->p≠q->d r=wz (.tup [.ref p,.ref q])->d p=wz (.lst j)->d q=wz (.lst k)->Reps X.K (ê d (p::q::g)) i j->Reps X.K (ê d (p::q::g)) bs k->Q i bs->h (.ref r) d)->c l H h
abbrev xx:=List D->(List D->List D->Prop)->Prop
def AW(K:aH)(l:xx):Sp:=λvs H Q _=>∃f i g,(∀p∈f,BM (H p))/\Reps K (ê H f) i vs/\l i g /\
 ∀h bs r p q j k d,bF H d->H r=wy->H p=wy->H q=wy->p≠q->d r=wz (.tup [.ref p,.ref q])->d p=wz (.lst j)->d q=wz (.lst k)->Reps K (ê d (p::q::f)) h j->Reps K (ê d (p::q::f)) bs k->g h bs->Q (.ref r) d
def Fg(f:xx)(t:AT):Bp:=λg Q=>t g λd=>f d Q
def Y1{k:Nat}{f:à}{pn}(F:nG X.prog X.w X.K X.mg X.base sC k f fd pn (AW X.K sp))(hm:X.mg x=wz (.ref f))(Z:gR X.K (.ref f)=wx)(hb:rY X.K fd pn [])
  (hr:iF k X.A) (J:yA X (e::a) t) (N:∀{b},PA X (e::a) b->PE X (.Call (.Name x p) (e::a) [] pos) (HW (AW X.K sp) [] E0 b)):Bq X (.Call (.Name x p) (e::a) [] pos) (Fg sp t):=by
 refine Â J λv M g=>?_;refine⟨_,N M,λB L H j i U Q Y o h k=>g B L H j i U _ _ o h λs l W d P O=>?_⟩;rw[cM];exact⟨j,s,Q,(o.grow d).live,P,O,λn bs r p q l T m S u y z C E G I g R q=>k n bs r p _ l T m (d.trans S) (bF.free' d u) (bF.free' d y) (bF.free' d z) C E G I g R q⟩
def Ja{K}{mg:â->Option á}{st}{f:à}{N pn:List â}{k:Nat}{n:xx}(F:OZ K x qual st f fd)(S:bS N pn (aV st))
  (j:∀{i}{A:e6}{outer}{s:ã}{H E},iF k (A.deeper (i7 qual (aV st) s.heap.objs.size f i))->N.Nodup->∀(g:List D)(Q:List D->List D->Prop),n g Q ->
   ∃t,xZ (sV sC P w K mg base N qual (aV st) f i A outer s H E).nox (lO st) t/\t { nx:=λ_=>False,rt:=λ_=>False,rp:=Q } (kT N g)) (len:autoParam (∀g Q,n g Q->g.length=pn.length) zzm._auto_1):nG P w K mg base sC (k+1) f fd pn (AW K n):=by
 refine F.ok S (λvs H Q E h=>?_) λi A outer s H vs Q E J h=>?_
 ·refine ý h λm g l _ r q _=>?_;rw[<- r.length];exact len g l q
 ·refine ý h λm g l live r q k=>?_;obtain⟨t,⟨T,p,O⟩,h⟩:=j J S.nd g l q;exact⟨T,p,O H m H m _ _ _ _ (rS live r) h ⟨λ_ _ _ _ _ _ d=>d.elim,λ_ _ _ _ _ _ d=>d.elim,λ_ _ _ _ _ _ d=>d.elim,λ_ _ _ _ _ d=>d.elim,λ_ _ _ _ _ _ _ _ _ d=>d.elim,λu bs r p q U W o R v y z B C G I L M d=>k u bs r p q U W o R v y z B C G I L M d,λ_ _ _ _ _ _ _ _ _ _ _ _ _ _ d=>d.elim,e7⟩⟩
def Jk(t:Bp):ET:=λf Q=>t f λd bs=>Q (.tuple [.list d,.list bs])
def Ff(h:Bq X e t):fP X e (Jk t):=by
 refine Â h λv p r=>?_;refine⟨_,p,λB y H d u G Q I o h k=>r B y H d u G _ _ o h λJ bs r p q K L w F m g j x n i l C E A=>?_⟩;have f:∀{z:à},H z=wy->z∉d:=λs=>jA o.live s;have sub:∀z∈d,z∈p::q::d:=λz s=>aE _ (aE _ s);exact k _ _ w F (.tuple (tI.of (lN (f m) n)) (.cons (.list (pE.of (lN (f g) i)) (C.same (gO sub))) (.cons (.list (pE.of (lN (f j) l)) (E.same (gO sub))) .nil))) A
end
end TL
namespace L2
open PySem.SeqAt
section
variable{X:Cx}
theorem vZ(ns:List Int):∀k,preSum (λi=>(ns[i]?).getD 0) k=(ns.take k).sum
|0=>rfl
|k+1=>by
 show preSum _ k+(ns[k]?).getD 0=_;rw[vZ ns k,dD,aF3]
 cases ns[k]? with
 |none=>simp
 |some x=>simp
theorem HX:∀ns:List Int,(∀n∈ns,0<=n/\n<2^40)->0<=ns.sum/\ns.sum<=(ns.length:Int)*2^40
|[],_=>by simp
|n::ns,h=>by
 have b:=h n (aM ..);have c:=HX ns λx a=>h x (aE _ a);grind
def yK(O:X.calm=wx):lV X (.builtin "sum") (λM H Q=>∃(p:à)(ns:List Int),M=[.ref p]/\pE X.K H p (ns.map V.int)/\(∀n∈ns,0<=n/\n<2^40)/\ns.length<=1000/\Q (.int ns.sum) H):=by
 intro G s σ H M us Q I r h;refine Õ h λp ns Y T m y q=>?_;subst Y;refine Â (nI r) λu Y U=>?_;subst Y;cases U;refine Å (I.list T) λc L J hz=>?_;have g:=L.length;rw[aC]at g
 have B:p≠s.heap.objs.size:=by
  refine Â J.isList λo C _=>?_;exact cU (bC C)
 have a:=J.isList
 have l:p<s.heap.objs.size:=by
  refine Â a λo C _=>?_;exact bC C
 have w:∀(i:Nat)(v:á),c.toArray[i]?=wz v->∃t,v=.int ((ns[i]?).getD 0) t:=λi v N=>by
  have F:c[i]?=wz v:=by simpa using N
  have Z:=(aJ.mp F).1;have hb:i<ns.length:=by lia
  refine Â (L.get (by rw[aO,aL hb];rfl)) λw' x E=>?_;rw[F]at x;cases x;rw[aL hb];exact E
 have d:∀k:Nat,0<=(ns.take k).sum/\(ns.take k).sum<2^63:=λk=>by
  have x:=HX (ns.take k) λn S=>m n (dX S);have E:(ns.take k).length<=1000:=by rw[bH];lia
  lia
 refine call_sum_walk (k7 a ?_);refine⟨_,_,_,_,_,_,λi=>(ns[i]?).getD 0,gL,fh (A:=X.A.in1) (I.ok.hd O) _ p B c.toArray,⟨⟨_,bA _ gL,gL,gL⟩,a.push _⟩,λb hb=>?_,w,λj P=>?_,λY tk W R=>?_⟩
 ·rw[fL];have:b=s.heap.objs.size\/b=p:=by simpa using hb
  rcases this with rfl | rfl
  ·exact nN _
  ·exact uG l
 ·rw[bL]at P;have f:j<ns.length:=by lia
  refine⟨?_,?_⟩
  ·have:=m ns[j] (iY f);show InLong ((ns[j]?).getD 0);rw[aL f];show -(2^63)<=ns[j]/\ns[j]<2^63;lia
  ·rw[vZ];have:=d (j+1);show -(2^63)<=_/\_<2^63;lia
 ·refine⟨.int _,H,I.kept λb o e=>R b o ?_ (aK _ e),⟨W,gL⟩,?_⟩
  ·intro z;have:b=s.heap.objs.size:=by simpa using z
   exact b9 (bC e) (by rw[this];exact fF _)
  ·rw[vZ,fJ (by rw[bL];lia)];exact q
end
def GF(l:à)(a:Array á) :
  Meets (bg.«enumerate.__new__» ⟨[.type "enumerate",.ref l],[]⟩) (λ_ R s=>s.heap.IsList l a /\
   R (.ok (.ret (.ref (s.heap.push { cls:=.type "list_iterator",data:=.fields #[.ref l,.int 0 0] }).objs.size)))
    { s with heap:=(s.heap.push { cls:=.type "list_iterator",data:=.fields #[.ref l,.int 0 0] }).push { cls:=.type "enumerate",data:=.fields #[.none,.bool ww,.ref s.heap.objs.size,t4 0,.none,.none] } }):=
 .of_wp λprog w A R s h=>by
  obtain⟨i,g,d,j,os⟩:=s;obtain⟨f,h⟩:=h;have e:=sub_enumerate;have b:=f
  wp_walk
  refine wpAny_stack_any λst=>bB ?_;split
  ·rename_i c _ _ _ _ _;cases (c==fg "enumerate")
   ·wp_walk using k7 b
    exact⟨_,gL,h⟩
   ·wp_walk using k7 b
    exact⟨_,gL,h⟩
  ·wp_walk using k7 b
   exact⟨_,gL,h⟩
section
variable{P:cO}{w:f8}{A:e6}{E:á->ã->Prop}{s:ã}
def DM{l:à}{Q:á->ã->Prop}(e:s.heap.IsList l items)
  (h:∀a,IsEnum a (s.heap.objs.size+1) s.heap.objs.size 0 .none->a.IsListIter s.heap.objs.size l 0->a.objs.size=s.heap.objs.size+2 ->
   (∀b o,s.heap.get? b=wz o->a.get? b=wz o)->Q (.ref (s.heap.objs.size+1)) { s with heap:=a }) :
  å (ä P w) A (call (.type "enumerate") [.ref l]) Q E s:=by
 refine callType_new F.called_enumerate cS (F.typeCall_enumerate_1 _) (F.newCall_enumerate_1 _) (λobj=>F.args_object_init_2 obj _) F.entry_enumerate_new
  (GF l items) ⟨e,?_⟩
 have c:(s.heap.push { cls:=.type "list_iterator",data:=.fields #[.ref l,.int 0 0] }).objs.size=s.heap.objs.size+1:=fL ..;rw[c]
 have d:IsEnum ((s.heap.push { cls:=.type "list_iterator",data:=.fields #[.ref l,.int 0 0] }).push
   { cls:=.type "enumerate",data:=.fields #[.none,.bool ww,.ref s.heap.objs.size,t4 0,.none,.none] }) (s.heap.objs.size+1) s.heap.objs.size 0 .none:=by
  have:=bA (s.heap.push { cls:=.type "list_iterator",data:=.fields #[.ref l,.int 0 0] })
   (o:={ cls:=.type "enumerate",data:=.fields #[.none,.bool ww,.ref s.heap.objs.size,t4 0,.none,.none] }) gL
  rw[c]at this;exact this
 exact⟨⟨_,d,gL⟩,h _ d ⟨_,aK _ (bA _ gL),gL,gL⟩ (by rw[fL,c]) λb o x=>aK _ (aK _ x)⟩
end
noncomputable def Im(K:aH)(a:à):It:=
 ⟨λi H=>∃b x,pE K H a b/\b[i]?=wz x,
  λi H v c=>∃p x,H p=wy/\v=.ref p/\c=eS H p (.tup [.int (i:Int),x])/\∀b,pE K H a b->b[i]?=wz x,
  λi H=>∃b,pE K H a b/\b.length<=i⟩
def UO{K}{x1:Nat}{e it l:à}(ol:e≠it) :
  OJ P w K (.Tuple ay x1 pos) (Im K l) [e,it] e (λi h=>(∃old,IsEnum h e it (i:Int) old)/\h.IsListIter it l i) where
 mem:=by simp
 obj:=λi h st b hb=>by
  obtain⟨⟨old,he⟩,il⟩:=st;simp only[aQ,cP,i6]at hb;rcases hb with rfl | rfl
  ·grind
  ·refine Å il λo e c d=>?_;grind
 keep:=λi h h' st k=>by
  obtain⟨⟨old,he⟩,il⟩:=st;exact⟨⟨old,k e gC _ he⟩,il.at λo x=>k it gC o x⟩
 item:=by
  intro X hP hw hK hc i pins s σ H E I hf st hg;subst hP hw hK;obtain⟨⟨old,he⟩,il⟩:=st;refine Î hg λxs x hq hx=>?_;refine Å (I.list hq) λbt rv p hz=>?_;refine Â (rv.get hx) λu hu ru=>?_;refine wpAny_pyNext_enum_item he il p.isList (by simpa using hu) ol λh' a1 a2 a3 a4 a5=>⟨_,gL,?_⟩;refine wpAny_letOwnedTupleGo_enum a1 λh2 b1 sb=>?_;have ku:=bC he
  have kk:∀c o,c∉[e,it]->s.heap.get? c=wz o->h2.get? c=wz o:=λc o aj x=>by
   simp only[aQ,cP,i6,not_or]at aj;exact sb.extBut _ _ aj.1 (a5 c o aj.1 aj.2 x)
  have I1:dL X pins σ (eS H s.heap.objs.size (.tup [.int (i:Int),x])) { s with heap:=h2,toks:=s.toks+1 }:=I.turnedNew hf kk (aP _) ⟨(by show 2<=bN;decide),[.int i s.toks,u],.cons ⟨_,gL⟩ (.cons ru .nil),⟨_,(sb.extBut _ _ (iP ku) a3),gL,_,gL,gL⟩⟩;refine⟨.ref s.heap.objs.size,_,I1,gL,⟨_,x,I.hok.fresh (aP _),gL,gL,λys hy=>by rw[I.list_inj hy hq];exact hx⟩,?_,λc aj=>?_⟩
  ·exact⟨⟨_,by rw[oN];exact b1⟩,a2.at λo x=>sb.extBut _ _ (i5 ol) x⟩
  ·have di:c≠s.heap.objs.size:=by
    simp only[aQ,cP,i6]at aj;rcases aj with rfl | rfl
    ·exact cU ku
    ·refine Â il λo z _=>?_;exact cU (bC z)
   rw[bZ di];exact(hf c aj).1
 done:=by
  intro X hP hw hK hc i pins s σ H E I hf st hg;subst hP hw hK;obtain⟨⟨old,he⟩,il⟩:=st;refine Â hg λxs hq hx=>?_;refine Å (I.list hq) λbt rv p hz=>?_;have hl:=rv.length;refine wpAny_pyNext_enum_end (I.ok.hd hc) he il p.isList (by simp;lia) λh' eb=>⟨gL,I.turnedL hf λc o aj x=>?_⟩;simp only[aQ,cP,i6,not_or]at aj;exact eb c o aj.2 x
 self:=λA i s Q E st h=>by
  obtain⟨⟨old,he⟩,_⟩:=st;exact ka he h
def GO:d9 "enumerate"=wz (.type "enumerate"):=by rfl
def Eb(K:aH)(b:TA):TI:=λd H R=>b d H λvs a=>∃l c,vs=[.ref l]/\pE K a l c/\R (Im K l) a
section
variable{X:Cx}
def aD6{E:Nat}(m:Gl X "enumerate")(o:X.mg "enumerate"=wy)(k:PA X [a] ta)(u:autoParam (bV [a] X.env=[(ww,è a X.env)]) zzz._auto_1) :
  PI X (.Tuple ay E tpos) (.Call (.Name "enumerate" p) [a] [] pos) (Eb X.K ta):=by
 intro b s G H R I h;refine Call_ (zL I m o GO (l3 (jE (k pos b s G H _ I h) λL f F=>?_) (by rw[u];rfl) (by rfl)));refine Í F λvs j d z y=>?_;refine Í y λl M Z t q=>?_;subst Z
 cases z with
 |cons r A=>
  cases A;cases r;refine Å (d.list t) λC B x w=>?_;refine DM x.isList λJ i e v n=>ka i ?_;refine⟨_,[f.heap.objs.size+1,f.heap.objs.size],_,_,j,gL,d.kept n,UO (Nat.succ_ne_self _),⟨⟨_,i⟩,e⟩,λc g=>?_,q⟩;simp only[aQ,cP,i6]at g;have le:f.heap.objs.size<=c:=by rcases g with rfl | rfl<;>first | exact aP _ | exact aF2 _ _
  exact d.fpOk le (d.hok.fresh le)
end
end L2
namespace TL
open L2 PySem.SeqAt
variable{K:aH}
def xt(K:aH)(a:à)(c:List â):Prop:=∃o b n,K.lookup a=wz o/\o.cls=.type "tuple"/\o.dict=wy/\o.data=.seq b n/\b.size<=bN/\fN (c.map V.str) b.toList
theorem zG:∀a:List â,Reps K H (a.map aI) (a.map V.str)
|[]=>.nil
|y::a=>.cons (.str y) (zG a)
noncomputable def GG(a:List D):List D:=EN (fA a.length) a
def tV(a:List D):(GG a).length=a.length:=by unfold GG;rw[zZ];unfold fA;simp
def CG{i:Nat}(h:as[i]?=wz a):(GG as)[i]?=wz (.tuple [.int (i:Int),a]):=by
 unfold GG EN fA;rw[aO,(kF (z:=(bW (i:Int),a))).mpr ⟨by rw[aO,lF ((aJ.mp h).1)];rfl,h⟩];rfl
def Vk(t:AT):IT:=λc Q=>t c λb=>∃a,b=[.list a]/\Q (GG a)
section
variable{X:Cx}{a b e:æ}{w:List æ}{c C g:ET}{pos:Pos}
def A9{x:â}{p:à}{d:List â}{pos}(f:Gl X x)(j:X.mg x=wz (.ref p))(i:xt X.K p d)(hd:autoParam ((x==("__debug__":â))=false) zzy._auto_1):fP X (.Name x pos) (eC (.tuple (d.map aI))):=
 ⟨_,lM (v:=.ref p) f j gL hd,λ_ _ H _ _ _ _ _ _ h k=>k _ _ H (L2.bF.refl H) (.tuple (.inr i) (zG d)) h⟩
def Yz{m:Nat}(v:yA X [a] t)(I:∀{c},PA X [a] c->PI X (.Tuple ay m tpos) (.Call (.Name "enumerate" p) [a] [] p') (Eb X.K c)):T9 X (.Tuple ay m tpos) (.Call (.Name "enumerate" p) [a] [] p') (Vk t):=by
 refine Â v λW E M=>?_;refine⟨_,I E,λB A H F j P Q R o h k=>M B A H F j P _ _ o h λU Y n N f J=>?_⟩;refine Â J λT w q=>?_;subst w
 cases f with
 |cons f L=>
  cases L
  cases f with
  |@list p1 us _ gi rs1=>
   have n1:=rs1.length;refine⟨p1,us,gL,L2.bF.seq bX gi,k _ _ n N ⟨λi H e d=>?_,λi H e d=>?_,λi H G y S live e d z=>?_⟩ q⟩
   ·rw[tV]at d;exact⟨us,L2.bF.seq e gi,eH⟩
   ·rw[tV]at d;exact⟨us,us[i],L2.bF.seq e gi,aL eH⟩
   ·refine Ñ z λp x l w g u=>?_;subst w g;refine Â (rs1.get' (u us (L2.bF.seq (e.trans bX) gi))) λr s O=>?_;exact⟨dN l,.tuple [.int (i:Int),r],CG s,uO live l (.cons (.int _) (.cons (O.same e) .nil))⟩
def Ky(d:D)(Q:D->Prop):Prop:=∃ns:List Int,d=.list (ns.map bW)/\(∀n∈ns,0<=n/\n<2^40)/\ns.length<=1000/\Q (.int ns.sum)
def Fb:tY X (λj H Q=>∃(p:à)(ns:List Int),j=[.ref p]/\pE X.K H p (ns.map V.int)/\(∀n∈ns,0<=n/\n<2^40)/\ns.length<=1000/\Q (.int ns.sum) H) (f1 Ky):=c1 λH m d x Q l live r h k=>by
 obtain⟨ns,rfl,i,f,h⟩:=h
 cases r with
 |list q s=>
  have e:=xA s;subst e;exact⟨_,ns,gL,L2.bF.seq bX q,i,f,k _ _ H (L2.bF.refl H) (.int _) h⟩
def KU(K:aH):V->List V->Hp->VK->Prop:=λx h H Q=>∃y f d j,h=[y]/\gW K H (.list f) x/\gW K H d y/\U7 f d j/\j<1000000/\Q (.int j) H
def QA(U:X.A.units+200<v7):OY X "list.index" (KU X.K):=by
 intro M s σ H x xs v us Q I rx rv h;obtain⟨y,i,d,j,rfl,Z,r2,⟨c1,E,p,⟨t,L,R⟩,z⟩,S,q⟩:=h;refine Â rv.one λu w ru=>?_;subst w;refine Ã (gW.reads I (show(fD i).hasDict=ww from noDictAll c1) Z rx) λas O=>?_;refine Ã (gW.reads I (nU E) r2 ru) λbs P=>?_
 cases O with
 |@list l o items n _ as' h3 h4 h5 h6=>
  have f:=gk i items.toList _ c1 h6;have J:items.size=i.length:=by rw[<- f,aC,eZ]
  have T:=(aJ.mp L).1;have G:j<items.size:=by lia
  have N:∀(m:Nat)(p:m<items.size),i[m]?=wz (gj s.heap items[m]):=λm p=>by
   rw[<- f,aO];simp[p]
  obtain⟨oc,W,Y,B⟩:=o;cases h4;cases h5;refine u4 F.slot_list_index ⟨_,h3,gL⟩ F.entry_list_index (F.args_list_index_2 _ _) (list_indexAt _ items _ W B u (λy=>dW (gj s.heap y) d) j G eH ?_ ?_) ⟨h3,iy h6 P c1 E (by have:=U;lia),?_⟩
  ·have:=N j G;rw[L]at this;rw[<- c7 this];exact R
  ·intro m r k;exact z m _ k (N m r)
  ·exact⟨.int j,H,I.tok _,⟨_,gL⟩,q⟩
def xF{k:Nat}(d:iF k X.A):OY X "list.index" (KU X.K):=QA (by have:=d.un;lia)
def TR(g:ET)(t:AT):ET:=λh Q=>g h λd=>∃f,d=.list f/\t h λi=>∃x j,i=[x]/\U7 f x j/\j<1000000/\Q (.int j)
def xL(F:fP X n g)(A:yA X (e::w) t)
  (I:∀{v c},PE X n v->PA X (e::w) c->PE X (.Call (.Attribute n "index" ap) (e::w) [] pos) (RQ X.K "list" (KU X.K) v c)):fP X (.Call (.Attribute n "index" ap) (e::w) [] pos) (TR g t):=by
 refine Â F λv J S=>?_;refine Â A λY G R=>?_;refine⟨_,I J G,λB l H m f u Q U o h k=>S B l H m f u _ _ o h λd x y r M i=>?_⟩;obtain⟨T,rfl,i⟩:=i
 cases M with
 |@list p xs _ hq rs=>
  refine⟨.inl ⟨gL,_,L2.bF.seq bX hq⟩,R B l y m f u _ _ (o.grow r) i λW Z z s N L=>?_⟩;refine Ñ L λd j b hok E q=>?_;subst b
  cases N with
  |cons O P=>
   cases P;exact⟨_,T,d,j,gL,(gW.list hq rs).same ((bR s).trans bX),O.same bX,hok,E,k _ _ z (r.trans s) (.int _) q⟩
def CB(f:List D)(d:D):Prop:=eA f=wx/\d.canLay0=wx/\min (eP f) d.depth<=60
def KW(K:aH):V->List V->Hp->VK->Prop:=λx h H Q=>∃y f d,h=[y]/\gW K H (.list f) x/\gW K H d y/\CB f d/\Q (.int ((f.countP λt=>dW t d:Nat):Int)) H
def QB(r:X.A.units+200<v7):OY X "list.count" (KW X.K):=by
 intro k s T H x S v R Q I M L h;obtain⟨y,i,d,rfl,E,G,⟨c1,j,O⟩,q⟩:=h;refine Â L.one λu w J=>?_;subst w;refine Ã (gW.reads I (show(fD i).hasDict=ww from noDictAll c1) E M) λN m=>?_;refine Ã (gW.reads I (nU j) G J) λbs p=>?_
 cases m with
 |@list l o items n _ as' h3 h4 h5 h6=>
  obtain⟨P,z,B,f⟩:=o;cases h4;cases h5;refine u4 F.slot_list_count ⟨_,h3,gL⟩ F.entry_list_count (F.args_list_count_2 _ _) (list_countAt _ items _ z f u (λy=>dW (gj s.heap y) d)) ⟨h3,iy h6 p c1 j (by have:=r;lia),?_⟩;refine⟨.int _,H,I.tok _,⟨_,gL⟩,?_⟩
  have e:(items.toList.countP λy=>dW (gj s.heap y) d)=i.countP λt=>dW t d:=by
   rw[<- (gk i items.toList _ c1 h6),G3];rfl
  rw[e];exact q
def VE{k:Nat}(d:iF k X.A):OY X "list.count" (KW X.K):=QB (by have:=d.un;lia)
def Yp(g:ET)(t:AT):ET:=λh Q=>g h λd=>∃f,d=.list f/\t h λi=>∃x,i=[x]/\CB f x/\Q (.int ((f.countP λt=>dW t x:Nat):Int))
def VW(A:fP X n g)(z:yA X (e::w) t)
  (F:∀{v c},PE X n v->PA X (e::w) c->PE X (.Call (.Attribute n "count" ap) (e::w) [] pos) (RQ X.K "list" (KW X.K) v c)):fP X (.Call (.Attribute n "count" ap) (e::w) [] pos) (Yp g t):=by
 refine Â A λv G P=>?_;refine Â z λU E O=>?_;refine⟨_,F G E,λB j H l f s Q S o h k=>P B j H l f s _ _ o h λd x u m J i=>?_⟩;obtain⟨R,rfl,i⟩:=i
 cases J with
 |@list p xs _ hq rs=>
  refine⟨.inl ⟨gL,_,L2.bF.seq bX hq⟩,O B j u l f s _ _ (o.grow m) i λT W y r L I=>?_⟩;refine Å I λd b hok q=>?_;subst b
  cases L with
  |cons M N=>
   cases N;exact⟨_,R,d,gL,(gW.list hq rs).same ((bR r).trans bX),M.same bX,hok,k _ _ y (m.trans r) (.int _) q⟩
def Yk(g:ET):yN:=λh Q=>g h λd=>∃f,d=.list f/\Q (!f.isEmpty)
def UP(h:fP X e g)(pt:∀{t},PE X e t->PT X e (λf H Q=>t f H λx j=>∃k,Ag X.K x j k/\Q k j)):ML X e (Yk g):=by
 refine Â h λv p r=>?_;refine⟨_,pt p,λB s H u i f Q E o h k=>r B s H u i f _ _ o h λd x m A z y=>?_⟩;refine Â y λl w q=>?_;subst w
 cases z with
 |@list p xs _ hq rs=>
  have n:=rs.length;refine⟨!xs.isEmpty,.inl ⟨xs,L2.bF.seq bX hq,gL⟩,?_⟩
  have:(!xs.isEmpty)=(!l.isEmpty):=by
   cases xs<;>cases l<;>first | rfl | (simp at n)
  rw[this];exact k _ m A q
def UW(c C:FT):zW:=λf d=>c d λh=>C d λbs=>f.rp h bs
def M0{c C}(F:Q7 X n c)(Q:Q7 X m C)(R:autoParam (bV [n,m] X.env=(ww,è n X.env)::bV [m] X.env) zzz._auto_1)(I:autoParam (bV [m] X.env=(ww,è m X.env)::bV [] X.env) zzz._auto_1):EI X (.Return (wz (.Tuple [n,m] x1 p2)) pos) (UW c C):=by
 refine Â F λva Y ra=>?_;refine Â Q λvb Z rb=>?_;refine⟨_,B0 (FH (eF Y (eF Z kX I) R)),λB s H l j M DT DV o h f=>?_⟩;refine ra B s H l j M _ _ o h λP p O t x N v rs q1=>?_
 have U:Ok X.K B s t (p::l) j M:=by
  have F:without t p p=none:=by unfold without;rw[b7 rfl]
  have W:=(o.grow (uK x N)).adopt (u:=.lst O) F
  rwa [CS v]at W
 refine rb B s t (p::l) j M _ _ U q1 λbs q ys A y G J L q2=>?_;refine⟨aB gL,λr k=>?_⟩;have i:=y _ _ v
 have S:bF (ê t (p::l)) (ê (eS A r (.tup [.ref p,.ref q])) (p::q::s)):=λb u hb=>by
  unfold ê at hb |-
  by_cases d:b∈p::l
  ·lia
  ·rw[a8 d]at hb;have E:=y _ _ hb;rw[a8,bZ (λz=>by lia)]
   ·exact E
   ·intro z;rcases aQ.mp z with z | z
    ·grind
    ·rcases aQ.mp z with z | z
     ·lia
     ·exact d (aE _ (o.sub b z))
 have T:bF (ê A (q::p::l)) (ê (eS A r (.tup [.ref p,.ref q])) (p::q::s)):=(bR (dN k)).trans (gO λz hz=>by
  rcases aQ.mp hz with rfl | hz
  ·simp
  ·rcases aQ.mp hz with rfl | hz
   ·exact aM ..
   ·exact aE _ (aE _ (o.sub z hz)))
 exact f.rp P bs r p q O ys _ (o.base.trans (x.trans (y.trans (dN k)))) (bF.free' (o.base.trans (x.trans y)) k) ((λhz=>bF.free' o.base hz) N) (bF.free' (o.base.trans x) G) (λz=>by lia) bU (by rw[bZ (λz=>by rw[z,k]at i;cases i)];exact i) (by rw[bZ (λz=>by rw[z,k]at J;cases J)];exact J) (rs.same S) (L.same T) q2
end
end TL
namespace TL
def Hi:d9 "sum"=wz (.builtin "sum"):=by rfl
open L2
section
variable{g:List (Option Nat)}{j:IT}{l:yN}{i:ET}{d:List Sl}{Q:D->Prop}{c:List D}
def aAc(r:wP j d c)(p:D->Bool)(f:D->D)(A:c.length<=100000)(u:∀x∈c,∃a b,x=.tuple [a,b])
  (v:∀a b q,.tuple [a,b]∈c->q (p (.tuple [a,b]))->l (((jZ g d).set 0 (.val a)).set 1 (.val b)) q)
  (z:∀a b q,.tuple [a,b]∈c->q (f (.tuple [a,b]))->i (((jZ g d).set 0 (.val a)).set 1 (.val b)) q) (w:Q (.list ((c.filter p).map f))):WR g j (gP 0 1) l i d Q:=by
 refine r _ ⟨A,λk m n=>(∀x y,(m.set 0 (.val x)).set 1 (.val y)=((jZ g d).set 0 (.val x)).set 1 (.val y))/\n=((c.take k).filter p).map f,⟨λ_ _=>rfl,gL⟩,λk x m n s h=>?_,λm n h=>?_⟩
 ·refine Ä h λt Z=>?_;subst Z;have o:=aZ s;refine À (u x o) λa b Z=>?_;subst Z;refine⟨a,b,gL,?_⟩;rw[t a b];refine v a b _ o ?_;have e:c.take (k+1)=c.take k++[.tuple [a,b]]:=by rw[dD,s];rfl
  cases hb:p (.tuple [a,b])with
  |true=>
   rw[b7 rfl];refine z a b _ o ⟨λx y=>BU _ _ _ _ _,?_⟩;rw[e,jV,cC];simp[hb]
  |false=>
   rw[a8 cS];refine⟨λx y=>BU _ _ _ _ _,?_⟩;rw[e,jV,cC];simp[hb]
 ·obtain⟨_,rfl⟩:=h;rw[eI];exact w
end
open PySem.Builtin PySem.Builtin.Str PySem.StrLaws
def O0(c:Nat)(e:List Nat):List Nat->Prop
|[]=>True
|a::L=>(a=c->L.take e.length=e)/\O0 c e L
section
variable{c:Nat}{e:List Nat}
theorem O0.at:∀{L:List Nat},O0 c e L->∀{i:Nat},L[i]?=wz c->(L.drop (i+1)).take e.length=e
|a::L,h,0,hi=>h.1 (c7 hi)
|a::L,h,i+1,hi=>O0.at h.2 (i:=i) hi
theorem O0.app(b:O0 c e M):∀{p},c∉p->O0 c e (p++M)
|[],_=>b
|a::p,h=>⟨λz=>b9 (by grind) h,b.app λz=>h (aE _ z)⟩
def HZ{x:â}(h:O0 c e x.cps.toList)(i:Nat):subAt x ⟨(c::e).toArray⟩ i=(x.cps.toList[i]?==wz c):=by
 rw[subAt_eq];show(((x.cps.toList.drop i).take (e.length+1))==c::e)=_
 cases b:x.cps.toList[i]? with
 |none=>
  have:=pL (tJ.mp b);grind
 |some a=>
  have d:x.cps.toList.drop i=a::x.cps.toList.drop (i+1):=by
   rw[tK ((aJ.mp b).1)];congr 1;exact(aJ.mp b).2
  rw[d,List.take_succ_cons];by_cases z:a=c
  ·subst z;rw[h.at b];simp
  lia
def O0.room{L:List Nat}(h:O0 c e L){i:Nat}(a:L[i]?=wz c):i+(e.length+1)<=L.length:=by
 have b:=d8 iT (h.at a);have d:=(aJ.mp a).1;rw[bH,dF]at b;lia
theorem B3{x:â}(h:O0 c e x.cps.toList)(k:e.length<=1)(g:c∉e)(d:Nat):∀(n a:Nat)(st:Array Nat×Nat),(st.snd<=a\/st.snd<=a+1/\x.cps.toList[a]?≠wz c)->st.fst.size<=a->a+n<=d ->
 (jt (UH a n) st (occBody x ⟨(c::e).toArray⟩ x.length d)).run.fst.size=st.fst.size+(UH a n).countP λi=>x.cps.toList[i]?==wz c
|0,_,_,_,_,_=>rfl
|n+1,a,st,h1,h2,h3=>by
 have p:x.cps.toList.length=x.length:=by simp[o4]
 rw[aCo,G2,EJ];unfold occBody;by_cases hb:((st.fst.size<d/\st.snd<=a)/\a+(⟨(c::e).toArray⟩:â).length<=x.length)/\subAt x ⟨(c::e).toArray⟩ a=wx
 ·rw[b7 hb];have f:=hb.2;rw[HZ h]at f;have o:x.cps.toList[a]?=wz c:=by simpa using f
  have r:=B3 h k g d n (a+1) (st.fst.push a,a+(⟨(c::e).toArray⟩:â).length) (by
   show a+(e.length+1)<=a+1\/a+(e.length+1)<=a+1+1/\_
   cases e with
   |nil=>exact .inl (aP _)
   |cons b m=>
    refine .inr ⟨eH,λz=>g ?_⟩;have j:(((x.cps.toList.drop (a+1)).take (b::m).length)[0]?)=wz c:=by rw[MN gC,lZ];exact z
    rw[(h.at o)]at j;rw[<- c7 j];exact aM ..) (by rw[GY];lia) eH
  rw[b7 f];refine r.trans ?_;rw[GY];lia
 ·rw[a8 hb]
  have f:¬((x.cps.toList[a]?==wz c)=wx):=λq=>hb (by
   have l:x.cps.toList[a]?=wz c:=by simpa using q
   exact⟨⟨⟨eH,h1.elim id λz=>b9 l z.2⟩,by rw[<- p];exact h.room l⟩,by rw[HZ h];exact q⟩)
  rw[a8 f];exact(B3 h k g d n (a+1) (st.fst,st.snd) (.inl (by lia)) (by lia) eH)
end
theorem C9(c:Nat):∀L:List Nat,(gA L.length).countP (λi=>L[i]?==wz c)=L.count c
|[]=>rfl
|a::L=>by
 rw[bD,List.range_succ_eq_map,EJ,G3,List.count_cons,<- C9 c L];rfl
def Zk{x:â}{c:Nat}{e:List Nat}(h:O0 c e x.cps.toList)(b:e.length<=1)(a:c∉e):(occurrences x ⟨(c::e).toArray⟩ 0 x.length (x.length+1)).length=x.cps.toList.count c:=by
 rw[occ_eq,eZ];rw[(B3 h b a (x.length+1) (x.length+1-0) 0 (#[],0) (.inl (aP _)) (aP _) eH)];have d:x.cps.toList.length=x.length:=by simp[o4]
 show 0+_=_;rw[DX,sJ,<- List.range_eq_range',G0,List.countP_append,<- d,C9]
 simp
noncomputable def VP(c:Nat)(e:List Nat):List (List Nat)->List Nat
|[]=>[]
|[p]=>p
|p::q::r=>p++c::(e++VP c e (q::r))
noncomputable abbrev jn(c:Nat):List (List Nat)->List Nat:=VP c []
theorem A0(c:Nat)(e:List Nat):∀a,(af ⟨(c::e).toArray⟩ a).cps.toList=VP c e (a.map (·.cps.toList))
|[]=>rfl
|[p]=>rfl
|p::q::r=>by
 have b:=A0 c e (q::r);show(p++⟨(c::e).toArray⟩++af ⟨(c::e).toArray⟩ (q::r)).cps.toList=_
 have app:∀x y:â,(x++y).cps.toList=x.cps.toList++y.cps.toList:=λx y=>by
  show(x.cps++y.cps).toList=_;simp
 rw[app,app,b,fC]
 rfl
def Za(c:Nat)(a:List â):(af ⟨#[c]⟩ a).cps.toList=jn c (a.map (·.cps.toList)):=A0 c [] a
theorem NV{c:Nat}(a:c∉e):∀p r,(VP c e (p::r)).count c=r.length+((p::r).map (J9 c)).sum
|p,[]=>by show p.count c=0+(p.count c+0);lia
|p,q::r=>by
 have b:=NV a q r;show(p++c::(e++VP c e (q::r))).count c=_;grind
theorem Hx{c:Nat}(a:c∉e):∀(p:List Nat)(r:List (List Nat)),(∀l∈p::r,c∉l)->O0 c e (VP c e (p::r))
|p,[],h=>by
 have:=O0.app (e:=e) (M:=[]) trivial (h p (aM ..))
 rwa [cM]at this
|p,q::r,h=>O0.app (M:=c::(e++VP c e (q::r))) ⟨λ_=>J6,(Hx a q r λl b=>h l (aE _ b)).app a⟩ (h p (aM ..))
theorem Hy(c:Nat)(e:List Nat):∀(p w:List Nat)(r s:List (List Nat)),(∀l∈p::r,c∉l)->(∀l∈w::s,c∉l)->VP c e (p::r)=VP c e (w::s)->p::r=w::s
|p,w,[],[],_,_,h=>by
 have:p=w:=h;rw[this]
|p,w,[],q::s,h1,_,h=>by
 have d:p=w++c::(e++VP c e (q::s)):=h;simp_all
|p,w,q::r,[],_,h2,h=>by
 have d:p++c::(e++VP c e (q::r))=w:=h;exact b9 (by grind) (h2 w (aM ..))
|p,w,q::r,t::s,h1,h2,h=>by
 have f:=h1 p (aM ..);have hw:=h2 w (aM ..)
 have j:∀(p w a b:List Nat),c∉p->c∉w->p++c::a=w++c::b->p=w/\a=b:=λp=>by
  induction p with
  |nil=>
   intro w a b _ hw e
   cases w with
   |nil=>grind
   |cons y w=>grind
  |cons x p n=>
   intro w a b f hw e
   cases w with
   |nil=>grind
   |cons y w=>
    grind
 obtain⟨d,g⟩:=j p w _ _ f hw h;rw[d,(Hy c e q t r s (λl i=>h1 l (aE _ i)) (λl i=>h2 l (aE _ i)) (OR g))]
def CV{c:Nat}{e:List Nat}(K:l6 ⟨(c::e).toArray⟩=1)(I:e.length<=1)(v:c∉e)(w:â)(g:List â)(h:∀x∈w::g,c∉x.cps.toList):Txt.split (Txt.join ⟨(c::e).toArray⟩ (w::g)) ⟨(c::e).toArray⟩=w::g:=by
 have ext:∀{x y:â},x.cps.toList=y.cps.toList->x=y:=λ{x y} h=>by
  cases x with
  |mk a=>
   cases y with
   |mk b=>
    have:a=b:=by simpa using d8 aMa h
    rw[this]
 have inj:∀{r j:List â},r.map (·.cps.toList)=j.map (·.cps.toList)->r=j:=λ{r}=>by
  induction r with
  |nil=>intro j h;cases j with | nil=>rfl | cons _ _=>cases h
  |cons x r E=>
   intro j h
   cases j with
   |nil=>cases h
   |cons y j=>
    rw[aX,aX]at h;refine Ä (l4 h) λs u=>?_;rw[ext s,E u]
 generalize N:Txt.join ⟨(c::e).toArray⟩ (w::g)=x
 have p:x.cps.toList=VP c e ((w::g).map (·.cps.toList)):=by
  rw[<- N];show(glued _ _).cps.toList=_;rw[glued_eq_join,A0]
 have k:∀l∈(w::g).map (·.cps.toList),c∉l:=λl A=>by
  refine Â (aS.mp A) λy O Z=>?_;subst Z;exact h y O
 have F:O0 c e x.cps.toList:=by rw[p];exact Hx v _ _ k
 have H:=Zk F I v
 have fin:∀(q:â)(qs:List â),glued ⟨(c::e).toArray⟩ (q::qs)=x->qs.length=x.cps.toList.count c->q::qs=w::g:=λq qs t hn=>by
  have o:x.cps.toList=VP c e ((q::qs).map (·.cps.toList)):=by rw[<- t,glued_eq_join,A0]
  have z:=NV v q.cps.toList (qs.map (·.cps.toList));rw[<- aX (f:=λy:â=>y.cps.toList),<- o,aC,hn]at z;have P:(((q::qs).map (·.cps.toList)).map (J9 c)).sum=0:=by lia
  have C:∀l∈(q::qs).map (·.cps.toList),c∉l:=λl A B=>by
   have s:l.count c∈((q::qs).map (·.cps.toList)).map (J9 c):=aS.mpr ⟨l,A,gL⟩
   have u:∀(ns:List Nat),ns.sum=0->∀n∈ns,n=0:=λns=>by
    induction ns with
    |nil=>intro _ n hn;simp at hn
    |cons m ns E=>
     intro M n hn;rw[dU]at M;rcases aQ.mp hn with rfl | hn
     ·lia
     ·exact E eH n hn
   have:=u _ P _ s;have:=List.count_pos_iff.mpr B;lia
  refine inj ?_;rw[aX,aX];refine Hy c e _ _ _ _ C k ?_;rw[<- aX (f:=λy:â=>y.cps.toList),<- aX (f:=λy:â=>y.cps.toList),<- o,<- p]
 have L:x.cps.toList.length=x.length:=by simp[o4]
 unfold Txt.split;split
 ·next hlt=>
  rw[K,oI,ny,ny]at hlt
  have s:1<=l6 x:=by
   unfold l6;split
   ·lia
   ·split<;>lia
  have Q:x.length<e.length+1:=by
   rcases hlt with q | q
   ·exact q
   ·lia
  refine fin x [] gL (W4.mpr λB=>?_).symm;refine Ã (dG B) λi J=>?_;have:=F.room J;lia
 ·split
  ·next hem=>
   refine fin x [] gL ?_;grind
  ·have d:=im x (occurrences x ⟨(c::e).toArray⟩ 0 x.length (x.length+1)) (⟨(c::e).toArray⟩:â).length;have t:=glued_between_self x ⟨(c::e).toArray⟩ (x.length+1)
   cases G:partsBetween x (occurrences x ⟨(c::e).toArray⟩ 0 x.length (x.length+1)) (⟨(c::e).toArray⟩:â).length with
   |nil=>grind
   |cons q qs=>
    grind
def zC(c:Nat)(b:c<256)(w:â)(a:List â)(h:∀x∈w::a,c∉x.cps.toList):Txt.split (Txt.join ⟨#[c]⟩ (w::a)) ⟨#[c]⟩=w::a:=CV (by
 unfold l6;rw[b7 (by simp[b])]) (dA _) (λz=>by cases z) w a h
end TL
namespace L2
open PySem.Builtin.Str
section
variable{X:Cx}
theorem HQ:∀l,fN ((l.map (·.1)).map V.str) (strValues l)
|[]=>.nil
|p::l=>.cons ⟨p.2,gL⟩ (HQ l)
def YM:V->List V->Hp->VK->Prop:=λx a H Q=>∃z y,x=.str z/\a=[.str y]/\(y.length==0)=ww/\z.length<=100000/\∀p,H p=wy->Q (.ref p) (eS H p (.lst ((Txt.split z y).map V.str)))
def wD:OY X "str.split" YM:=by
 intro d s w H x E v C Q I r p h;refine Õ h λz y b Z i B q=>?_;subst b Z;refine Ã r λt b=>?_;subst b;refine Â (nI p) λu b o=>?_;subst b;refine Ã o λf b=>?_;subst b;have A:bN=2^24:=rfl
 have fin:∀(l:List (â×Tok))(k:Nat),l.map (·.1)=Txt.split z y->l.length<=bN->EP X d w Q (.ref s.heap.objs.size) { s with toks:=k,heap:=s.heap.push { cls:=.type "list",data:=.seq (strValues l).toArray } }:=λl k j m=>by
  have c:=I.hok.fresh (aP _);refine⟨.ref s.heap.objs.size,eS H s.heap.objs.size (.lst ((Txt.split z y).map V.str)),I.laid (λb u e=>aK _ e) (aP _) ?_,gL,q _ c⟩;rw[<- j];exact⟨by rw[aC,aC];exact m,strValues l,0,HQ l,bA _ gL⟩
 have g:=StrLaws.occ_length_le z y 0 z.length (z.length+1);have n:=im z (occurrences z y 0 z.length (z.length+1)) y.length;cases a:(decide (z.length<y.length)||decide (strKind z<strKind y))
 ·cases c:(occurrences z y 0 z.length (z.length+1)).isEmpty
  ·refine u4 cj (am _ _ _) bx (bq _ _) (meets_str_split_sep z y t f a i c eH eH) ?_;rw[strsFrom_eq];refine fin (numbered s.toks _) _ ((numbered_texts _ _).trans ((a8 (cw a)).trans (a8 (cw c))).symm) ?_;have:=d8 iT (numbered_texts s.toks (partsBetween z (occurrences z y 0 z.length (z.length+1)) y.length));rw[aC]at this;lia
  ·exact u4 cj (am _ _ _) bx (bq _ _) (meets_str_split_not_found z y t f a i c) (fin [(z,t)] _ ((a8 (cw a)).trans (b7 c)).symm (by show 1<=bN;decide))
 ·exact u4 cj (am _ _ _) bx (bq _ _) (meets_str_split_cannot_occur z y t f a) (fin [(z,t)] _ (b7 a).symm (by show 1<=bN;decide))
def YO(K:aH):V->List V->Hp->VK->Prop:=λx b H Q=>∃z p a,x=.str z/\b=[.ref p]/\tI K H p (a.map V.str)/\(a.map (·.length)).sum+a.length*z.length<=16777216/\Q (.str (Txt.join z a)) H
def Z3:OY X "str.join" (YO X.K):=by
 intro a s o H x m v l Q I i r h;refine Ú h λz p n y w b c q=>?_;subst y w;refine Ã i λt y=>?_;subst y;refine Â (nI r) λu y f=>?_;subst y;cases f;refine Å (I.tuple b) λd g e _=>?_;exact PyProof.Rows.join_tuple e (by simpa using KF g) c λj k=>⟨.str _,H,I.tok k,⟨j,gL⟩,q⟩
end
end L2
namespace TL
open L2
section
variable{X:Cx}{e:æ}{a:List æ}{b c:ET}{pos:Pos}
def kU:EI X s (λ_ _=>False):=⟨λ_ _ _=>False,λ_ _ _ _ _ _ h=>h.elim,λ_ _ _ _ _ _ _ _ _ h _=>h.elim⟩
def Vi(z:â)(d:List D)(Q:D->Prop):Prop:=match d with | [.str y]=>(y.length==0)=ww/\z.length<=100000/\Q (.list ((Txt.split z y).map aI)) | _=>False
def wI(E:fP X n c)(C:yA X (e::a) t)
  (J:∀{v b},PE X n v->PA X (e::a) b->PE X (.Call (.Attribute n "split" ap) (e::a) [] pos) (RQ X.K "str" YM v b)):fP X (.Call (.Attribute n "split" ap) (e::a) [] pos) (JO Vi c t):=by
 refine Â E λv L R=>?_;refine Â C λW I P=>?_;refine⟨_,J L I,λB m H r f w Q T o h k=>R B m H r f w _ _ o h λd x A j M i=>?_⟩;obtain⟨z,rfl,i⟩:=i;cases M;refine⟨gL,P B m A r f w _ _ (o.grow j) i λU Y S u N g=>?_⟩
 cases N with
 |nil=>exact g.elim
 |cons s O=>
  cases O with
  |cons _ _=>cases s<;>exact g.elim
  |nil=>
   cases s with
   |str y=>
    refine ñ g λF G q=>?_;refine⟨z,y,gL,gL,F,G,λp l=>?_⟩;exact k _ _ _ (j.trans (u.trans (dN l))) (AL ((o.grow j).grow u).live l (zG _)) q
   |_=>exact g.elim
def Vh(z:â)(f:List D)(Q:D->Prop):Prop:=match f with | [.tuple ts]=>∃d,ts=d.map aI/\(d.map (·.length)).sum+d.length*z.length<=16777216/\Q (.str (Txt.join z d)) | _=>False
def aA8(g:fP X n c)(f:yA X (e::a) t)
  (j:∀{v b},PE X n v->PA X (e::a) b->PE X (.Call (.Attribute n "join" ap) (e::a) [] pos) (RQ X.K "str" (YO X.K) v b)):fP X (.Call (.Attribute n "join" ap) (e::a) [] pos) (JO Vh c t):=
 IW g f (λH u z p w Q o r h k=>by
  cases r with
  |nil=>exact h.elim
  |cons d l=>
   cases l with
   |cons _ _=>cases d<;>exact h.elim
   |nil=>
    cases d with
    |tuple q s=>
     obtain⟨m,rfl,i,h⟩:=h;have e:=tN s;subst e;exact⟨z,_,m,gL,gL,bF.seqT bX q,i,k _ _ H (L2.bF.refl H) (.str _) h⟩
    |_=>exact h.elim) j
end
end TL
namespace L2
open PySem.Builtin
section
def SN:∀{ns:List Int}{us},IntsAre us ns->fN (ns.map V.int) us:=HS
end
end L2
namespace TL
open L2
section
def tW:d9 "sorted"=wz (.builtin "sorted"):=by rfl
end
end TL
namespace L2
def GR(K:aH)(cd:á):Prop:=∃c P,cd=.ref c/\tabA=wz P/\CN K c P=wx
def OZ.okC{K}{mg:â->Option á}{st}{f:à}{c:iW}{N g:List â}{k:Nat}{i:Sp}(F:OZ K x qual st f c)(S:bS N g (aV st))(len:∀vs H Q E,i vs H Q E->vs.length=g.length)
  (b:∀a,c.code=a->∀A outer s H vs Q E,iF k (A.deeper (i7 qual (aV st) s.heap.objs.size f a))->i vs H Q E ->
   ∃t,DP (sV sC P w K mg base N qual (aV st) f a A outer s H E).nox (lO st) t/\t { nx:=λ_ j=>Q .non j,rt:=Q } (oQ N vs) H):nG P w K mg base sC (k+1) f c g i:=by
 refine ô F.ex λp r kV l u an a ct o z n d=>?_;subst z;refine Bl n d S len λA outer s H vs Q E m e=>?_;refine Â (b a gL A outer s H vs Q E m e) λt h q=>?_;exact⟨t,h.nox,q⟩
end L2
namespace TL
open L2
def Jb{K}{mg:â->Option á}{st}{f:à}{g:iW}{N pn:List â}{k:Nat}{l:WT}(L:GR K g.code)(F:OZ K x qual st f g)(S:bS N pn (aV st))(len:∀c Q,l c Q->c.length=pn.length)
  (d:∀b,GR K b->∀A outer s H E,iF k (A.deeper (i7 qual (aV st) s.heap.objs.size f b))->∀c Q,l c Q ->
   ∃t,xZ (sV sC P w K mg base N qual (aV st) f b A outer s H E).nox (lO st) t/\t { nx:=λ_=>False,rt:=λ_=>False,ro:=Q } (kT N c)):nG P w K mg base sC (k+1) f g pn (nS K l):=by
 refine F.okC S (λvs H Q E h=>?_) λb i A outer s H vs Q E u h=>?_
 ·refine ý h λj c e _ r q _=>?_;rw[<- r.length];exact len c e q
 ·refine ý h λj c e live r q k=>?_;obtain⟨t,⟨m,p,y⟩,h⟩:=d b (i▸L) A outer s H E u c e q;exact⟨m,p,y H j H j _ _ _ _ (rS live r) h ⟨λ_ _ _ _ _ _ a=>a.elim,λ_ _ _ _ _ _ a=>a.elim,λ_ _ _ _ _ _ a=>a.elim,λ_ _ _ _ _ a=>a.elim,λm p B n z o C v rs a=>k m p B n z o v rs a,λ_ _ _ _ _ _ _ _ _ _ _ _ _ _ _ _ _ _ a=>a.elim,λ_ _ _ _ _ _ _ _ _ _ _ _ _ _ a=>a.elim,e7⟩⟩
def Ad(b:Int)(e:D)(k:Int):Prop:=∃q st top bot,e=.tuple [q,st,.tuple [.int top,.int bot]]/\Ac b bot/\RF top (b / bot)/\k=top*(b / bot)
def Ad.rep{K}{b k:Int}(h:Ad b e k)(r:gW K H e x):HE K H b x k:=by
 refine ù h λq st top bot z d f g=>?_;subst z
 cases r with
 |tuple m a=>
  cases a with
  |cons o a=>
   cases a with
   |cons p a=>
    cases a with
    |cons i a=>
     cases a
     cases i with
     |tuple n c=>
      cases c with
      |cons j c=>
       cases c with
       |cons l c=>
        cases c;cases j;cases l;exact⟨_,_,_,_,top,bot,gL,m,n,d,f,g⟩
theorem HE.mask{K}{b k:Int}(h:HE K (TL.ê H ps) b x k):HE K H b x k:=h.same λ_ _ e=>bX _ _ e
def Wj(ib:Nat)(t:AT):FT:=λd Q=>t d λf=>∃(a:List D)(b:Int)(c:List Int),f=[.list a]/\a.length<64/\d[ib]?=wz (.val (.int b))/\c.length=a.length/\(∀(i:Nat) e k,a[i]?=wz e->c[i]?=wz k->Ad b e k) /\
 ∀J,SS.MK a.length (λi=>c.getD i 0) J->Q (J.map λi=>a.getD i .none)
def aA0{X:Cx}{ib:Nat}{k:Nat}(g:iF (k+3) X.A)(L:GR X.K db)(hc:X.env.code=db)(m:X.N[ib]?=wz "bottom")(hk:X.env.kindOf "bottom"=wz .cell)
  (hg:Gl X "sorted") (hm:X.mg "sorted"=wy) (hv:d9 "sorted"=wz (.builtin "sorted")) (Z:yA X [e] t)
  (he:autoParam (j7 pos (bV [e] X.env)=(ww,è e X.env)::j7 pos (bV [] X.env)) zzz._auto_1)
  (w:autoParam ((j7 pos (bV [e] X.env)).any (·.1)=false) zzz._auto_1) :
  Q7 X (.Call (.Name "sorted" np) [e] [⟨wz (c9 "key"),.Lambda (Ef ap) (.BinOp (.Subscript (.Subscript (.Name "entry" p1) (.Constant (.int 2) 0 p2) p3) (.Constant (.int 0) 0 p4) p5) .Mult (.BinOp (.Name "bottom" p6) .FloorDiv (.Subscript (.Subscript (.Name "entry" p7) (.Constant (.int 2) 0 p8) p9) (.Constant (.int 1) 0 C) q2) q3) q4) AY lp,kp⟩] pos) (Wj ib t):=by
 refine Í L λc P V Y W=>?_;subst V;refine Â Z λta pa ra=>?_;refine⟨_,Y4 g Y hc W m hk hg hm hv pa he w,λB p0 H M F σ Q QV o h k=>ra B p0 H M F σ _ _ o h λds vs H1 s1 E C=>?_⟩;refine Ā C λl b kz V a hb p f q=>?_;subst V;refine Â (o.val ib _ hb) λv y z=>?_;cases z
 cases E with
 |cons E r2=>
  cases r2
  cases E with
  |@list pp xv _ hs rs=>
   have s:=rs.length;refine⟨_,_,b,kz,gL,L2.bF.seq bX hs,by lia,y,by rw[p,s],λi x k0 hx n=>?_,λS R J r sb g=>?_⟩
   ·refine Â (rs.get' hx) λd hd rd=>?_;exact HE.mask ((f i d k0 hd n).rep rd)
   ·rw[<- s]at sb;have O:=s1.trans R;refine k _ r _ _ (O.trans (dN g)) (bF.free' O g) bU ?_ (q J sb);rw[oS g]
    have:∀J:List Nat,(∀i∈J,i<l.length)->Reps X.K (TL.ê S M) (J.map λi=>l.getD i .none) (J.map λi=>xv.getD i .non):=by
     intro J G
     induction J with
     |nil=>exact .nil
     |cons j J ih=>
      refine .cons ?_ (ih λi hi=>G i (aE _ hi));have I:=G j (aM ..);refine Â ((rs.same (bR R)).get (aL I)) λu T U=>?_;grind
    exact this J sb.lt
end TL
namespace L2
noncomputable def Mv(K:aH)(cd:á)(P:à):Bool:=match cd with | .ref c=>CN K c P | _=>ww
def Wb{K cd}{P:à}(h:Mv K cd P=wx)(e:tabA=wz P):GR K cd:=by
 cases cd with
 |ref c=>exact⟨c,P,gL,e,h⟩
 |_=>cases h
def aIz{h:ç}{c P:à}(C:aB6 h c P)(e:h.get? P=wz { cls:=.none,data:=.fields #[] }):az h P:=(C.tab e).isCodeTable
section
variable{X:Cx}{d:List (à×Obj)}{f:St}{H:Hp}{s:ã}{p q:à}
def XE(h:H p=wz u):eS H p u=H:=by
 funext b;by_cases e:b=p
 ·subst e;rw[bU,h]
 ·rw[bZ e]
def MV:∀g h,TL.uL p q g->(∀o,g.get? p=wz o->h.get? p=wz o)->TL.uL p q h:=by intro g h m k;refine ā m λa b c i j l n e r=>?_;exact⟨a,b,c,i,j,l,n,k _ e,r⟩
noncomputable def AF(q:à)(a b c:Int):HO:=.lst [.ref q,.int a,.int b,.int c]
def dL.openTape(I:dL X d f H s)(h:H p=wz (.ext (TL.uL p q))):∃a b c,0<=a/\(c=0\/c=1)/\dL X d f (eS H p (AF q a b c)) s:=by
 obtain⟨⟨a,b,c,j,k,l,n,e,g,i⟩,_⟩:=I.hok p _ h;exact⟨a,b,c,g,i,I.retold h (λr z=>by cases z) (λo v z=>by cases z) (λm z=>by cases z) (λa z=>by cases z) ⟨aB gL,_,n,.cons gL (.cons ⟨j,gL⟩ (.cons ⟨k,gL⟩ (.cons ⟨l,gL⟩ .nil))),e⟩⟩
def dL.closeTape{a b c:Int}(I:dL X d f H s)(h:H p=wz (AF q a b c))(g:0<=a)(i:c=0\/c=1):dL X d f (eS H p (.ext (TL.uL p q))) s:=by
 refine Ç (I.hok p _ h) λz j n r e=>?_
 cases r with
 |cons k r=>cases r with
  |cons l r=>cases r with
   |cons m r=>cases r with
    |cons t r=>
     cases r;cases k;refine Ã l λu y=>?_;subst y;refine Ã m λw y=>?_;subst y;refine Ã t λx y=>?_;subst y;exact I.retold h (λA z=>by cases z) (λo v z=>by cases z) (λy z=>by cases z) (λa z=>by cases z) ⟨⟨a,b,c,u,w,x,n,e,g,i⟩,⟨_,e⟩,MV⟩
def aD8(i:Nat)(h:PE X e te):PE X e (λf H Q=>∃p q,f[i]?=wz (wz (.ref p))/\H p=wz (.ext (TL.uL p q))/\∀a b c,0<=a->(c=0\/c=1) ->
  te f (eS H p (AF q a b c)) λv g=>g=eS H p (AF q a b c)/\Q v H):=by
 intro d s f H Q I ⟨p,q,_,m,t⟩;refine Ð (I.openTape m) λa b c k l o=>?_;refine jE (h d s f _ _ o (t a b c k l)) λu y x=>?_;refine Ñ x λv g n r e w=>?_;subst e;have j:=n.closeTape bU k l;rw[D0,XE m]at j;exact⟨v,H,j,r,w⟩
def aD7(i:Nat)(h:PG X tg g):PG X tg (λv f H Q=>∃p q,f[i]?=wz (wz (.ref p))/\H p=wz (.ext (TL.uL p q))/\∀a b c,0<=a->(c=0\/c=1) ->
  g v f (eS H p (AF q a b c)) λj m=>(∃a b c,0<=a/\(c=0\/c=1)/\m=eS H p (AF q a b c))/\Q j H):=by
 intro d s f H v u Q I y ⟨p,q,_,o,w⟩;refine Ð (I.openTape o) λa b c k l t=>?_;refine jE (h d s f _ v u _ t y (w a b c k l)) λ_ A z=>?_;obtain⟨j,m,r,⟨a,b,c,k,l,e⟩,x⟩:=z;subst e;have n:=r.closeTape bU k l;rw[D0,XE o]at n;exact⟨j,H,n,x⟩
def U0(h:PE X e te):PE X e (λf H Q=>te f H λv g=>∃p q a b c,v=.ref p/\g p=wz (AF q a b c)/\0<=a/\(c=0\/c=1)/\Q (.ref p) (eS g p (.ext (TL.uL p q)))):=by
 intro d s f H Q I l;refine jE (h d s f H _ I l) λu o n=>?_;refine Í n λv g i r q=>?_;refine Ă q λp q a b c z e j k m=>?_;subst z;exact⟨.ref p,_,i.closeTape e j k,r,m⟩
end
end L2
namespace TL
open L2
section
variable{X:Cx}{a b c e:æ}{j:ET}{pos:Pos}
noncomputable def jP(ns:List Int):D:=.dict [(.none,.list (ns.map bW))]
def M6{K}{H:Hp}{ns:List Int}(r:gW K H (jP ns) v):∃p q,v=.ref p/\H p=wz (.ext (uL p q))/\pE K H q (ns.map V.int):=by
 unfold jP at r
 generalize f:(oG [(.none,.list (ns.map bW))])=d at r
 cases r with
 |@tape p q ms h g=>
  injection f with f;injection f with f;injection f with _ f;injection f with f
  have e:ns=ms:=by
   have:=d8 (aXj λd:D=>match d with | .int i=>i | _=>0) f;simpa[bJ,Function.comp_def]using this
  subst e;exact⟨p,q,gL,h,g⟩
 |_=>cases f
def Nf(i k:Nat):ET:=λd Q=>∃ns,d[i]?=wz (.val (jP ns))/\match k with
|0=>Q (.list (ns.map bW))
|1=>∀a,0<=a->Q (.int a)
|2=>∀b,Q (.int b)
|3=>∀c,(c=0\/c=1)->Q (.int c)
|_=>False
def A7{i:Nat}(k:Nat)(w:PE X (.Subscript n ix pos) (wo (yh X.K) (pD i) (tC (.int k)))):fP X (.Subscript n ix pos) (Nf i k):=by
 refine⟨_,aD8 i w,λB G H E F I Q l o h C=>?_⟩;refine Â h λns e h=>?_;refine Â (o.val i _ e) λv f r=>?_;refine Í (M6 r) λp q j m y=>?_;subst j;refine⟨p,q,f,bX _ _ m,λa b c t u=>⟨.ref p,f,?_⟩⟩
 have fin:∀(x:V)(d:D),atI [V.ref q,.int a,.int b,.int c] (k:Int)=wz x->gW X.K (ê H E) d x->Q d->yh X.K (.ref p) (.int (k:Int)) (eS H p (AF q a b c)) (λv g=>g=eS H p (AF q a b c)/\l v H):=λx d A z s=>
  .inl ⟨p,_,_,x,gL,gL,pE.of bU,A,gL,C d x H (L2.bF.refl H) z s⟩
 rcases k with _|_|_|_|_
 ·exact fin _ _ rfl (.list y (F3 ns)) h
 ·exact fin _ _ rfl (.int a) (h a t)
 ·exact fin _ _ rfl (.int b) (h b)
 ·exact fin _ _ rfl (.int c) (h c u)
 ·cases h
def AJ(i k:Nat)(j:ET):zW:=λg f=>j f λd=>(∃ns,f[i]?=wz (.val (jP ns)))/\(match k with | 1=>∃a,d=.int a/\0<=a | 2=>∃b,d=.int b | _=>False)/\g.nx f
def yZ{i:Nat}{e}(k:Nat)(F:fP X e j)(G:PG X (.Subscript n ix p2) (Cs (pD i) (tC (.int k)) Fv))
  (J:∀{v g},PE X e v->PG X (.Subscript n ix p2) g->PS X (.Assign [.Subscript n ix p2] e pos) (xT v g)):EI X (.Assign [.Subscript n ix p2] e pos) (AJ i k j):=by
 refine Â F λv K L=>?_;refine⟨_,J K (aD7 i G),λB I H w m A M N o h f=>?_⟩;refine L B I H w m A _ _ o h λd x O z y l=>?_;have u:=o.grow z;obtain⟨⟨ns,e⟩,hd,l⟩:=l;refine Â (u.val i _ e) λv t r=>?_;refine Í (M6 r) λp q d C P=>?_;subst d;refine⟨p,q,t,bX _ _ C,λa b c E s=>⟨.ref p,t,?_⟩⟩;have nx:=f.nx _ w _ A u (bR z) l
 match k,hd with
 |1,⟨a',hd,ha'⟩=>
  subst hd;cases y;exact⟨p,_,_,1,gL,gL,bU,gL,⟨a',b,c,ha',s,D0⟩,nx⟩
 |2,⟨b',hd⟩=>
  subst hd;cases y;exact⟨p,_,_,2,gL,gL,bU,gL,⟨a,b',c,E,s,D0⟩,nx⟩
def Yq(t:FT):ET:=λf Q=>t f λd=>∃ns c,d=[.list (ns.map bW),.int 0,.int 0,.int c]/\(c=0\/c=1)/\Q (jP ns)
def VU(h:Q7 X e t):fP X e (Yq t):=by
 refine Â h λv p r=>?_;refine⟨_,U0 p,λB w H i f F Q I o h k=>r B w H i f F _ _ o h λJ p E G s g n rs q=>?_⟩;obtain⟨ns,c,rfl,m,q⟩:=q
 cases rs with
 |cons x rs=>cases rs with
  |cons y rs=>cases rs with
   |cons A rs=>cases rs with
    |cons C rs=>
     cases rs;cases y;cases A;cases C
     cases x with
     |@list l E _ hq hr=>
      have e:=xA hr;subst e;refine⟨p,l,0,0,c,gL,n,pC 0,m,k (jP ns) _ _ (λb u d=>?_) (.tape (lN (jA o.live g) bU) (L2.bF.seq (λb u d=>?_) hq)) q⟩
      ·rw[bZ λz=>by lia];exact s b u d
      ·unfold ê at d |-
       by_cases hb:b∈p::i
       ·lia
       ·rw[a8 hb]at d;rw[a8 λz=>hb (aE _ z),bZ λz=>hb (by grind)];exact d
end
section
variable{X:Cx}{e:æ}{a:List æ}{b:ET}{pos:Pos}
inductive aF0:List æ->List â->Prop
|nil:aF0 [] []
|cons {z:â} {x1:Nat} {p:Pos} {a:List æ} {zs:List â}:aF0 a zs->aF0 (.Constant (.str z) x1 p::a) (z::zs)
def V9{a:List æ}{c:List â}(h:aF0 a c):yA X a (λ_ Q=>Q (c.map aI)):=by
 induction h with
 |nil=>exact aF
 |cons _ d=>exact aA bI d
def AG{i:Nat}(c:X.N.Nodup)(g:X.N[i]?=wz x)(k:WU X.env.scope x)(d:fP X e b)(j:autoParam (mH e (wz (.Name x pos')) pos.line X.env=pure false) zzz._auto_1)(f:autoParam (X.fn x=wx\/X.env.scope.names.lookup x=wz .local) zzn._auto_1) :
  EI X (.Assign [.Name x pos'] e pos) (KP i b):=X1 d λh=>mD c g k h j f
end
structure sZ where
 I:Type
 S:Type
 ad:I->List à
 tau:I->D
 At:I->aH->Hp->List à->S->Prop
 to:∀{T:I}{K:aH}{H H':Hp}{ps u9:List à}{n:S},At T K H ps n->(∀a∈ad T,H' a=H a)->bF (ê H ps) (ê H' u9)->At T K H' u9 n
 liv:∀{T:I}{K:aH}{H:Hp}{ps:List à}{n:S},At T K H ps n->∀a∈ad T,BM (H a)
 inj:∀{T T':I},tau T=tau T'->T=T'
def iE(c:List à)(H b:Hp):Prop:=∀a o,a∉c->H a=wz o->b a=wz o
section
variable{K:aH}{H k p w B:Hp}{l g as:List à}{f:List Sl}{m:L2.St}
def iE.of(s:bF H k):iE as H k:=λa o _ e=>s a o e
def iE.refl:iE as H H:=λ_ _ _ e=>e
def iE.trans(s:iE as H p)(t:iE as p w):iE as H w:=λa o n e=>t a o n (s a o n e)
theorem iE.mask(c:∀a∈as,a∈g)(s:iE as H k):bF (ê H g) (ê k g):=λa o e=>by
 unfold TL.ê at e |-
 by_cases b:a∈g
 ·lia
 ·rw[a8 b]at e |-
  exact s a o (λz=>b (c a z)) e
def Ok.growZ(o:Ok K B l H g f m)(hp:∀a∈as,a∈l)(hB:∀a∈as,B a=wy)(s:iE as H k)(hl:∀a∈as,BM (k a)):Ok K B l k g f m where
 base:=λa u e=>s a u (λz=>by rw[hB a z]at e;cases e) (o.base a u e)
 sub:=o.sub
 live:=λq hq=>by
  by_cases e:q∈as
  ·exact hl q e
  ·refine Â (o.live q hq) λu h1 h2=>?_;exact⟨u,s q u e h1,h2⟩
 len:=o.len
 val:=λi d h=>by refine Â (o.val i d h) λv h1 h2=>?_;exact ⟨v,h1,h2.same (s.mask λa z=>o.sub a (hp a z))⟩
 own:=λi ts h=>by refine í (o.own i ts h) λq xs h1 h2 h3 h4 h5 h6=>?_;exact ⟨q,xs,h1,h2,h3,h4,s q _ (λz=>h4 (hp q z)) h5,h6.same (s.mask λa z=>o.sub a (hp a z))⟩
 dis:=o.dis
 dc:=o.dc.to (λj hs kvs h=>⟨h,gL⟩) (λq φ a b c=>⟨a,(s q _ (λz=>c (hp q z)) b).trans b.symm⟩) (λq φ _ _ a b=>⟨a,b⟩) (s.mask λa z=>o.sub a (hp a z))
variable{F:sZ}{T:F.I}{n x:F.S}
def sZ.At.grow(t:F.At T K H g n)(s:bF H k):F.At T K k g n:=F.to t (λa c=>by
 refine Â (F.liv t a c) λu b _=>?_;rw[b];exact s a u b) (bR s)
structure pG(F:sZ)(K:aH)(B:Hp)(l:List à)(H:Hp)(g:List à)(f:List Sl)(m:L2.St)(T:F.I)(n:F.S):Prop where
 ok:Ok K B l H g f m
 mem:∀a∈F.ad T,a∈l
 nb:∀a∈F.ad T,B a=wy
 tp:F.At T K H g n
def pG.mem'(o:pG F K B l H g f m T n):∀a∈F.ad T,a∈g:=λa h=>o.ok.sub a (o.mem a h)
theorem pG.grow(o:pG F K B l H g f m T n)(s:bF H k):pG F K B l k g f m T n:=⟨o.ok.grow s,o.mem,o.nb,o.tp.grow s⟩
def pG.growX(o:pG F K B l H g f m T n)(s:iE (F.ad T) H k)(t:F.At T K k g x):pG F K B l k g f m T x:=⟨o.ok.growZ o.mem o.nb s (F.liv t),o.mem,o.nb,t⟩
theorem pG.set(o:pG F K B l H g f m T n){i:Nat}(r:gW K (ê H g) d v):pG F K B l H g (f.set i (.val d)) (m.set i (wz v)) T n:=⟨o.ok.set r,o.mem,o.nb,o.tp⟩
end
section
variable{F:sZ}
abbrev EZ(F:sZ):=D->F.S->List Sl->(F.S->D->Prop)->Prop
abbrev AZ(F:sZ):=D->F.S->List Sl->(F.S->List D->Prop)->Prop
abbrev TZ(F:sZ):=D->F.S->List Sl->(F.S->Bool->Prop)->Prop
def uE(X:Cx)(e:æ)(t:EZ F):Prop:=∃h,PE X e h/\∀B j H c a i T n Q f,pG F X.K B j H c a i T n->t (F.tau T) n a Q ->
 (∀g d v b,iE (F.ad T) H b->F.At T X.K b c g->gW X.K (ê b c) d v->Q g d->f v b)->h i H f
def UB(X:Cx)(i:List æ)(t:AZ F):Prop:=∃g,PA X i g/\∀B j H c a h T n Q d,pG F X.K B j H c a h T n->t (F.tau T) n a Q ->
 (∀f e vs b,iE (F.ad T) H b->F.At T X.K b c f->Reps X.K (ê b c) e vs->Q f e->d vs b)->g h H d
def hV(X:Cx)(e:æ)(t:TZ F):Prop:=∃h,PT X e h/\∀B j H g a i T n Q d,pG F X.K B j H g a i T n->t (F.tau T) n a Q ->
 (∀f b c,iE (F.ad T) H c->F.At T X.K c g f->Q f b->d b c)->h i H d
def ze(X:Cx)(e:æ)(t:TZ F):Prop:=∃h,PW X e h/\∀B j H g a i T n Q d,pG F X.K B j H g a i T n->t (F.tau T) n a Q ->
 (∀f b c,iE (F.ad T) H c->F.At T X.K c g f->Q f b->d b c)->h i H d
section
variable{X:Cx}{a b e:æ}{j:List æ}{i l C:EZ F}{pos:Pos}
def zE(t:ET):EZ F:=λ_ n c Q=>t c (Q n)
def jJ(h:fP X e t):uE (F:=F) X e (zE t):=by
 refine Â h λv p r=>?_;exact⟨v,p,λB m H u c x T n Q g o h k=>r B m H u c x (Q n) g o.ok h λd v f s w q=>k n d v f (.of s) (o.tp.grow s) w q⟩
def zA(t:AT):AZ F:=λ_ n c Q=>t c (Q n)
def qJ(h:yA X j t):UB (F:=F) X j (zA t):=by
 refine Â h λv p r=>?_;exact⟨v,p,λB m H u c x T n Q g o h k=>r B m H u c x (Q n) g o.ok h λd v f s w q=>k n d v f (.of s) (o.tp.grow s) w q⟩
def zT(t:yN):TZ F:=λ_ n c Q=>t c (Q n)
def rK(h:ML X e t):hV (F:=F) X e (zT t):=by
 refine Â h λv p r=>?_;exact⟨v,p,λB g H m c u T n Q f o h k=>r B g H m c u (Q n) f o.ok h λb d s q=>k n b d (.of s) (o.tp.grow s) q⟩
def xj(f:D->D->(D->Prop)->Prop)(i l:EZ F):EZ F:=λd n c Q=>i d n c λn1 x=>l d n1 c λg y=>f x y (Q g)
def AQ{f:D->D->(D->Prop)->Prop}(R:BJ X r f){J L:TE}
  (U:∀B t H m c p T n Q q,pG F X.K B t H m c p T n->i (F.tau T) n c Q->(∀s d v g,iE (F.ad T) H g->F.At T X.K g m s->gW X.K (ê g m) d v->Q s d->q v g)->J p H q)
  (hb:∀B t H m c p T n Q q,pG F X.K B t H m c p T n->l (F.tau T) n c Q->(∀s d v g,iE (F.ad T) H g->F.At T X.K g m s->gW X.K (ê g m) d v->Q s d->q v g)->L p H q)
  (B:Hp) (t:List à) (H:Hp) (m:List à) (c:List Sl) (p:L2.St) (T:F.I) (n:F.S) (Q:F.S->D->Prop) (q:VK) (o:pG F X.K B t H m c p T n) (h:xj f i l (F.tau T) n c Q) (k:∀s d v g,iE (F.ad T) H g->F.At T X.K g m s->gW X.K (ê g m) d v->Q s d->q v g):wo r J L p H q:=by
 refine U B t H m c p T n _ _ o h λn1 O x M E t1 r1 Y=>?_;have z:=o.growX E t1;refine hb B t M m c p T n1 _ _ z Y λw P y N u G r2 Z=>?_;exact R N m O P x y (Q w) q (z.growX u G).ok.live (r1.same (u.mask o.mem')) r2 Z λd v g A r' W=>k w d v g ((E.trans u).trans (.of A)) (G.grow A) r' W
def Mj{f:D->D->(D->Prop)->Prop}(g:pF X (j8 op) r)(c:BJ X r f)(d:uE X a i)(hb:uE X b l):uE X (.BinOp a op b pos) (xj f i l):=by
 refine Â d λo h m=>?_;refine Â hb λp k n=>?_;exact⟨_,IJ g h k,AQ c m n⟩
def Ig{f:D->D->(D->Prop)->Prop}(h:pF X (d6 op) r)(c:BJ X r f)(d:uE X a i)(hb:uE X b l)(g:autoParam (i0 op b=false) zzt._auto_1):uE X (.Compare a [op] [b] pos) (xj f i l):=by
 refine Â d λp k n=>?_;refine Â hb λq m o=>?_;exact⟨_,SG h k m g,AQ c n o⟩
def Mi{f:D->D->(D->Prop)->Prop}(g:hA X r)(c:BJ X r f)(d:uE X a i)(hb:uE X b l)(h:autoParam (EH b) zzv._auto_1):uE X (.Subscript a b pos) (xj f i l):=by
 refine Â d λp k n=>?_;refine Â hb λq m o=>?_;exact⟨_,vH g k m h,AQ c n o⟩
def Dp:AZ F:=λ_ n _ Q=>Q n []
def Uf(t:EZ F)(r:AZ F):AZ F:=λd n c Q=>t d n c λn1 x=>r d n1 c λf g=>Q f (x::g)
def lB:UB (F:=F) X [] Dp:=⟨_,kX,λ_ _ H _ _ _ _ _ _ _ o h k=>k _ _ _ H .refl o.tp .nil h⟩
def dR{tr}(t:uE X e C)(u:UB X j tr)(v:autoParam (bV (e::j) X.env=(ww,è e X.env)::bV j X.env) zzz._auto_1):UB X (e::j) (Uf C tr):=by
 refine Â t λP w I=>?_;refine Â u λR y J=>?_;refine⟨_,eF w y v,λB f H g c q T n Q M o h k=>I B f H g c q T n _ _ o h λn1 d x r m K E z=>?_⟩;refine J B f r g c q T n1 _ _ (o.growX m K) z λO N S s p L G A=>?_;exact k _ _ _ s (m.trans p) L (.cons (E.same (p.mask o.mem')) G) A
def Lq(t:AZ F):EZ F:=λf n d Q=>t f n d λn1 c=>c.length<=1000/\Q n1 (.tuple c)
def QT{t:AZ F}(h:UB X j t):uE X (.Tuple j x1 pos) (Lq t):=by
 refine Â h λv p r=>?_;refine⟨_,FH p,λB u H w d x T n Q z o h k=>r B u H w d x T n _ _ o h λn1 A E y m s g f=>⟨uU (by rw[<- g.length];exact f.1),λq c=>?_⟩⟩;exact k _ _ _ _ (m.trans (.of (dN c))) (s.grow (dN c)) (uO (o.growX m s).ok.live c g) f.2
def Hc(f:List D->(D->Prop)->Prop)(t:AZ F):EZ F:=λg n d Q=>t g n d λn1 c=>f c (Q n1)
def Mh{r:List V->Hp->VK->Prop}{f:List D->(D->Prop)->Prop}{t:AZ F}(A:tY X r f)(z:UB X (e::j) t)(I:∀{i:TA},PA X (e::j) i->PE X (.Call g (e::j) [] pos) (WN r i)):uE X (.Call g (e::j) [] pos) (Hc f t):=by
 refine Â z λv G N=>?_;refine⟨_,I G,λB E H m c P T n Q x o h k=>N B E H m c P T n _ _ o h λn1 y O w q s M K=>?_⟩;exact A w m y O (Q n1) x (o.growX q s).ok.live M K λd v u p L J=>k n1 d v u (q.trans (.of p)) (s.grow p) L J
def wH{k:Nat}{f:à}{pn:List â}{c:mO}{x:â}{t:AZ F}(F:nG X.prog X.w X.K X.mg X.base sC k f fd pn (mS X.K c))(W:X.mg x=wz (.ref f))(U:gR X.K (.ref f)=wx)(hb:rY X.K fd pn [])
  (Y:iF k X.A) (z:UB X (e::j) t) (I:∀{i:TA},PA X (e::j) i->PE X (.Call (.Name x p) (e::j) [] pos) (HW (mS X.K c) [] E0 i)):uE X (.Call (.Name x p) (e::j) [] pos) (Hc c t):=by
 refine Â z λv G O=>?_;refine⟨_,I G,λB E H m g P T n Q S o h k=>O B E H m g P T n _ _ o h λn1 y Z R r s N L=>?_⟩;rw[cM];exact⟨m,y,Q n1,(o.growX r s).ok.live,N,L,λd v u q M J=>k n1 d v u (r.trans (.of q)) (s.grow q) M J⟩
abbrev xX(F:sZ):=D->F.S->List D->(F.S->D->Prop)->Prop
def jO(K:aH)(m:xX F):Sp:=λvs H Q _=>∃c T n h g,(∀p∈c,BM (H p))/\(∀a∈F.ad T,a∈c)/\F.At T K H c n/\Reps K (ê H c) h vs/\m (F.tau T) n h g /\
 ∀k d v f,iE (F.ad T) H f->F.At T K f c k->gW K (ê f c) d v->g k d->Q v f
def Ug(f:xX F)(t:AZ F):EZ F:=λc n g Q=>t c n g λn1 d=>f c n1 d Q
def rC{k:Nat}{f:à}{fd:iW}{pn:List â}{q:xX F}{x:â}{t:AZ F}(w:UB X (e::j) t)(E:∀{i:TA},PA X (e::j) i->PE X (.Call (.Name x p) (e::j) [] pos) (HW (jO X.K q) [] E0 i)):uE X (.Call (.Name x p) (e::j) [] pos) (Ug q t):=by
 refine Â w λv A M=>?_;refine⟨_,E A,λB z H g c P T n Q S o h k=>M B z H g c P T n _ _ o h λn1 u U R m r L I=>?_⟩;rw[cM];exact⟨g,T,n1,u,Q,(o.growX m r).ok.live,o.mem',r,L,I,λy d v s N O J G=>k y d v s (m.trans N) O J G⟩
def Dr(t:EZ F):TZ F:=λd n c Q=>t d n c λn1 x=>match x with | .bool b=>Q n1 b | _=>False
def yW{f:D->D->(D->Prop)->Prop}(u:pF X (d6 op) r)(q:BJ X r f)(s:uE X a i)(hb:uE X b l)(t:autoParam (i0 op b=false) zzt._auto_1):hV X (.Compare a [op] [b] pos) (Dr (xj f i l)):=by
 refine Â s λO z I=>?_;refine Â hb λP A J=>?_;refine⟨_,R9 u z A t,λB y H E g M T n Q N o h k=>?_⟩;refine AQ q I J B y H E g M T n (λn1 x=>match x with | .bool b=>Q n1 b | _=>False) _ o h λw d v p K L G m=>?_
 cases G with
 |bool c=>exact⟨c,gL,k w c p K L m⟩
 |_=>exact m.elim
variable{m z:TZ F}{jM:List æ}
def Ui(t:TZ F):TZ F:=λd n c Q=>t d n c λn1 b=>Q n1 (!b)
def Lm(t u:TZ F):TZ F:=λd n c Q=>t d n c λn1 b=>if b=wx then Q n1 wx else u d n1 c Q
def XH(h:hV X a m):hV X (.UnaryOp .Not a pos) (Ui m):=by
 refine Â h λv p r=>?_;exact⟨_,YV p,λB f H g c u T n Q w o h k=>r B f H g c u T n _ _ o h λn1 b d s t q=>k _ _ d s t q⟩
def Ha(h:ze X e m):hV X e m:=by
 refine Â h λv p r=>?_;exact⟨_,p.pt,r⟩
def XA(h:hV X a m):ze X (.BoolOp .Or [a] pos) m:=by
 refine Â h λv p r=>?_;exact⟨_,YT p,r⟩
def Gn(v:hV X a m)(hb:ze X (.BoolOp .Or (b::jM) pos) z):ze X (.BoolOp .Or (a::b::jM) pos) (Lm m z):=by
 refine Â v λL x E=>?_;refine Â hb λM y G=>?_;refine⟨_,Fk x y,λB p H q d t T n Q K o h k=>E B p H q d t T n _ _ o h λn1 c g f s r=>?_⟩
 cases c with
 |true=>exact k _ _ g f s r
 |false=>exact G B p g q d t T n1 Q _ (o.growX f s) r λw b u I J A=>k w b u (f.trans I) J A
end
end
section
variable{F:sZ}
section
variable{K:aH}{H B:Hp}{a b:List à}{c:List Sl}{d:L2.St}{T:F.I}{n:F.S}
def pG.with(o:pG F K B a H b c d T n)(e:Ok K B a H b o9 v4):pG F K B a H b o9 v4 T n:=⟨e,o.mem,o.nb,o.tp⟩
end
structure OO(F:sZ) where
 nx:F.S->List Sl->Prop
 rt:F.S->D->Prop
 bk:F.S->List Sl->Prop:=λ_ _=>False
 ct:F.S->List Sl->Prop:=λ_ _=>False
 xB:Hp->List à->Prop:=λ_ _=>True
abbrev SZ(F:sZ):=D->OO F->F.S->List Sl->Prop
structure J1(F:sZ)(K:aH)(B:Hp)(p0:List à)(H:Hp)(ps:List à)(T:F.I)(DC:OO F)(DV:aB4):Prop where
 nx:∀H' u9 o9 v4 n',pG F K B p0 H' u9 o9 v4 T n'->bF (ê H ps) (ê H' u9)->DC.nx n' o9->DV.nx v4 H'
 bk:∀H' u9 o9 v4 n',pG F K B p0 H' u9 o9 v4 T n'->bF (ê H ps) (ê H' u9)->DC.bk n' o9->DV.bk v4 H'
 ct:∀H' u9 o9 v4 n',pG F K B p0 H' u9 o9 v4 T n'->bF (ê H ps) (ê H' u9)->DC.ct n' o9->DV.ct v4 H'
 rt:∀n' d v H',bF B H'->F.At T K H' p0 n'->gW K (ê H' p0) d v->DC.rt n' d->DV.rt v H'
 xb:DC.xB B p0
def zX(X:Cx)(st:é)(t:SZ F):Prop:=∃f,PS X st f/\∀B d H e a g T n b c,pG F X.K B d H e a g T n->t (F.tau T) b n a->J1 F X.K B d H e T b c->f c g H
def BI(X:Cx)(st:List é)(t:SZ F):Prop:=∃f,DP X st f/\∀B d H e a g T n b c,pG F X.K B d H e a g T n->t (F.tau T) b n a->J1 F X.K B d H e T b c->f c g H
section
variable{K:aH}{H c B:Hp}{g k:List à}{l:List Sl}{m:L2.St}{T:F.I}{n:F.S}
def J1.later(f:J1 F K B g H k T DC DV)(e:bF (ê H k) (ê c u9)):J1 F K B g c u9 T DC DV:=
 ⟨λ_ _ _ _ _ o s q=>f.nx _ _ _ _ _ o (e.trans s) q,λ_ _ _ _ _ o s q=>f.bk _ _ _ _ _ o (e.trans s) q,λ_ _ _ _ _ o s q=>f.ct _ _ _ _ _ o (e.trans s) q,f.rt,f.xb⟩
noncomputable def A1(B:Hp)(b:List à)(H:Hp):Hp:=λa=>if a∈b then H a else B a
def LI{a:à}(h:a∈as):A1 B as H a=H a:=b7 h
def qA{a:à}(h:a∉as):A1 B as H a=B a:=a8 h
def B7(h:∀a∈as,B a=wy):bF B (A1 B as H):=λa u e=>by
 rw[qA λz=>by rw[h a z]at e;cases e];exact e
def pG.up(o:pG F K B g H k l m T n):Ok K (A1 B (F.ad T) H) g H k l m where
 base:=λa u e=>by
  by_cases z:a∈F.ad T
  ·rw[LI z]at e;exact e
  ·rw[qA z]at e;exact o.ok.base a u e
 sub:=o.ok.sub
 live:=o.ok.live
 len:=o.ok.len
 val:=o.ok.val
 own:=λi ts h=>by refine í (o.ok.own i ts h) λq xs h1 h2 h3 h4 h5 h6=>?_;exact ⟨q,xs,h1,h2,by rw[qA λz=>h4 (o.mem q z)];exact h3,h4,h5,h6⟩
 dis:=o.ok.dis
 dc:=o.ok.dc.to (λj hs kvs h=>⟨h,gL⟩) (λq φ a b _=>⟨a,gL⟩) (λq φ _ _ a b=>⟨by rw[qA λz=>b (o.mem q z)];exact a,b⟩) (L2.bF.refl _)
def pG.down(o:pG F K B g H k l m T n)(o':Ok K (A1 B (F.ad T) H) g c u9 o9 v4)(s:bF (ê H k) (ê c u9)):pG F K B g c u9 o9 v4 T n where
 ok:=⟨(B7 o.nb).trans o'.base,o'.sub,o'.live,o'.len,o'.val,λi ts h=>by refine í (o'.own i ts h) λq xs h1 h2 h3 h4 h5 h6=>?_;exact ⟨q,xs,h1,h2,bF.free' (B7 o.nb) h3,h4,h5,h6⟩,o'.dis,o'.dc.to (λj hs kvs h=>⟨h,gL⟩) (λq φ a b _=>⟨a,gL⟩) (λq φ _ _ a b=>⟨bF.free' (B7 o.nb) a,b⟩) (L2.bF.refl _)⟩
 mem:=o.mem
 nb:=o.nb
 tp:=F.to o.tp (λa ha=>by
  refine Â (F.liv o.tp a ha) λu e _=>?_;rw[e];exact o'.base a u (by rw[LI ha];exact e)) s
def aA3{p:OO F}(o:pG F K B g H k l m T n)(f:J1 F K B g H k T p DV):RA K (A1 B (F.ad T) H) g H k { nx:=p.nx n,rt:=λ_=>False,bk:=p.bk n,ct:=p.ct n } DV:=
 ⟨λc e a h j i b=>f.nx c e a h n (o.down j i) i b,λc e a h j i b=>f.bk c e a h n (o.down j i) i b,λc e a h j i b=>f.ct c e a h n (o.down j i) i b,
  λd v c i q b=>b.elim,
  λ_ _ _ _ _ _ _ _ _ b=>b.elim,λ_ _ _ _ _ _ _ _ _ _ _ _ _ _ _ _ _ _ b=>b.elim,λ_ _ _ _ _ _ _ _ _ _ _ _ _ _ b=>b.elim,e7⟩
end
section
variable{X:Cx}{a b c e:æ}{l:List æ}{j:EZ F}{pos:Pos}{st:é}{jM:List é}{t u:SZ F}
def zP(t:zW):SZ F:=λ_ d n f=>t { nx:=d.nx n,rt:=λ_=>False,bk:=d.bk n,ct:=d.ct n } f
def mB{t}(h:EI X st t):zX (F:=F) X st (zP t):=by
 refine Â h λm p r=>?_;refine⟨m,p,λB i H k d q T n s g o h f=>?_⟩;exact r _ i H k d q _ g o.up h (aA3 o f)
def MR:SZ F:=λ_ d n f=>d.nx n f
def BO(t u:SZ F):SZ F:=λf d n g=>t f { d with nx:=u f d } n g
def iB:BI (F:=F) X [] MR:=⟨_,SA,λB p H g d i T n k m o h f=>f.nx H g d i n o (L2.bF.refl _) h⟩
def cD(s:zX X st t)(v:BI X jM u):BI X (st::jM) (BO t u):=by
 refine Â s λL y E=>?_;refine Â v λJ z G=>?_;refine⟨_,nK y z,λB q H A p K T n g i o h f=>E B q H A p K T n { g with nx:=u (F.tau T) g } { i with nx:=J i } o h ⟨λr k d m w x I C=>?_,f.bk,f.ct,f.rt,f.xb⟩⟩;exact G B q r k d m T w g i x C (f.later I)
def dI(d:zX X st t):BI X [st] t:=by
 refine Â d λh f g=>?_;exact⟨_,D6 f,g⟩
def Lp(j:EZ F):SZ F:=λg d n f=>j g n f d.rt
def iO(h:uE X e j):zX X (.Return (wz e) pos) (Lp j):=by
 refine Â h λv p r=>?_;refine⟨_,B0 p,λB q H s g A T n C E o h f=>r B q H s g A T n _ _ o h λm d x k z i y w=>?_⟩;exact f.rt m d x k (o.growX z i).ok.base (F.to i (λ_ _=>rfl) (gO o.ok.sub)) (y.same (gO o.ok.sub)) w
def kS(c:TZ F)(t u:SZ F):SZ F:=λf g n d=>c f n d λn1 b=>if b=wx then t f g n1 d else u f g n1 d
def jQ{c a b}(y:hV X c tc)(x:BI X a t)(hb:BI X b u):zX X (.If c a b pos) (kS tc t u):=by
 refine Â y λM C I=>?_;refine Â x λK z E=>?_;refine Â hb λL A G=>?_;refine⟨_,Fi C z A,λB i H k g m T n p q o h f=>I B i H k g m T n _ _ o h λn1 d r w J v=>?_⟩;have s:=o.growX w J;have f1:=f.later (w.mask o.mem')
 grind
def Dq(i:Nat)(j:EZ F):SZ F:=λh g n f=>j h n f λn1 d=>g.nx n1 (f.set i (.val d))
def rO{i:Nat}(h:uE X e j)(g:∀{v},PE X e v->PS X (.Assign [.Name x pos'] e pos) (xT v (nD i))):zX X (.Assign [.Name x pos'] e pos) (Dq i j):=by
 refine Â h λv p r=>?_;refine⟨_,g p,λB y H m k E T n G I o h f=>r B y H m k E T n _ _ o h λw d x s q C A z=>?_⟩;exact f.nx s m _ _ w ((o.growX q C).set A) (q.mask o.mem') z
def Lr(j:EZ F)(g:GT):SZ F:=λi h n f=>j i n f λn1 d=>g d f (h.nx n1)
def XX(z:uE X e j)(A:OX X tg g)(E:∀{v k},PE X e v->PG X tg k->PS X (.Assign [tg] e pos) (xT v k)):zX X (.Assign [tg] e pos) (Lr j g):=by
 refine Â z λv G L=>?_;refine Â A λk pg M=>?_;refine⟨_,E G pg,λB r H m i w T n P Q o h f=>L B r H m i w T n _ _ o h λn1 d x p s N K J=>?_⟩;have q:=o.growX s N;exact M B r p m i w d x _ _ q.ok K J λy O C _ I=>f.nx p m _ _ n1 (q.with C) (s.mask o.mem') I
def Dm(q:IT)(g:GT)(p:SZ F):SZ F:=λr f n o=>q o λi=>∃P:Nat->F.S->List Sl->Prop,P 0 n o /\
 (∀k m x d,i[k]?=wz x->P k m d->g x d λh=>p r { f with nx:=P (k+1),ct:=P (k+1),bk:=f.nx } m h)/\∀m d,P i.length m d->f.nx m d
def Yb{iter}{tb:SZ F}(he:T9 X tg iter ti)(hg:OX X tg g)(hb:BI X body tb)
  (pf:∀{wi:TI}{gv:TG}{bv:TS},PI X tg iter wi->PG X tg gv->DP X body bv->PS X (.For tg iter body [] pos) (Bd wi gv bv)):zX X (.For tg iter body [] pos) (Dm ti g tb):=by
 refine Â he λve pe re=>?_;refine Â hg λgv pg rg=>?_;refine Â hb λvb pb rb=>?_;refine⟨_,pf pe pg pb,λB G H U R σ T n DC DV o h f=>re B G H U R σ _ _ o.ok h λO J H1 s1 rj q1=>?_⟩;refine Å q1 λP h0 hs hd=>?_;refine⟨λi m r v=>m=O.length-i/\i<=O.length/\∃c p d,pG F X.K B G v p d r T c/\bF (ê H1 U) (ê v p)/\P i c d,⟨_,gL,dA _,n,U,R,o.grow s1,L2.bF.refl _,h0⟩,?_⟩;rintro i m r v ⟨rfl,lj,c,p,d,o',W,p'⟩;have sH:=W.trans bX;have f':=f.later ((bR s1).trans W);by_cases x:i<O.length
 ·refine .inr ⟨rj.go i v sH x,λQ w=>∃c2 I s,pG F X.K B G w I s Q T c2/\bF (ê H1 U) (ê w I)/\P (i+1) c2 s,λQ w z=>⟨O.length-(i+1),eH,gL,x,z⟩,λy w iw=>?_⟩;refine È (rj.yld i v p y w o'.ok.live W x iw) λs2 dx hx rx=>?_;have Z:=f'.later (bR s2);have M:=W.trans (bR s2);have o2:=o'.grow s2;refine rg B G w p d r dx y _ _ o2.ok rx (hs i c dx d hx p') λS kf o3 _ q3=>?_;exact rb B G w p S kf T c _ _ (o2.with o3) q3 ⟨λY q k A C E N L=>⟨C,q,k,E,M.trans N,L⟩,λY q k A C E N L=>Z.nx Y q k A C E N L,λY q k A C E N L=>⟨C,q,k,E,M.trans N,L⟩,Z.rt,Z.xb⟩
 ·obtain rfl:i=O.length:=by omega
  exact .inl ⟨rj.stop _ v sH (aP _),f'.nx v p d r c o' (L2.bF.refl _) (hd c d p')⟩
noncomputable def jT(H:Hp)(d:List à):Hp:=λa=>if a∈d then wy else H a
def TJ{mg:â->Option á}{K st}{f:à}{N pn:List â}{k:Nat}{W:xX F}(Fn:OZ K x qual st f fd)(S:bS N pn (aV st))
  (y:∀{m}{A:e6}{outer}{s:ã}{H E},iF k (A.deeper (i7 qual (aV st) s.heap.objs.size f m))->N.Nodup->∀(Y:F.I)(n:F.S)(g:List D)(Q:F.S->D->Prop),W (F.tau Y) n g Q ->
   ∃t,BI (sV sC P w K mg base N qual (aV st) f m A outer s H E).nox (lO st) t/\t (F.tau Y) { nx:=λn _=>Q n .none,rt:=Q } n (kT N g)) (len:autoParam (∀τ n g Q,W τ n g Q->g.length=pn.length) zzm._auto_1):nG P w K mg base sC (k+1) f fd pn (jO K W):=by
 refine Fn.ok S (λvs H Q E h=>?_) λm A outer s H vs Q E hr h=>?_
 ·refine ø h λz T n g L _ _ _ r q _=>?_;rw[<- r.length];exact len _ _ g L q
 ·refine ø h λz T n g L live hp tp r q k=>?_;obtain⟨t,⟨ts,p,rd⟩,h⟩:=y hr S.nd T n g L q;have o:=rS (N:=N) live r
  have O:∀(i:Nat)(J:List D),(kT N g)[i]?≠wz (.own J):=λi J e=>by
   refine í (o.own i J e) λq _ _ _ M _ G _=>?_;rw[M]at G;cases G
  have sW:bF (jT H (F.ad T)) H:=λa u e=>by
   unfold jT at e;split at e
   ·cases e
   ·exact e
  have Z:∀{C:Hp},bF (jT H (F.ad T)) C->iE (F.ad T) H C:=λs a u ne e=>s a u (by unfold jT;rw[a8 ne];exact e)
  have o2:Ok K (jT H (F.ad T)) z H z (kT N g) (L2.oQ N vs):=⟨sW,o.sub,o.live,o.len,o.val,λi J e=>b9 e (O i J),o.dis,λi hs kvs e=>by
   obtain⟨⟨q,l,_,_,M,_,G,_⟩,_⟩:=o.dc i hs kvs e;rw[M]at G;cases G⟩
  have o3:pG F K (jT H (F.ad T)) z H z (kT N g) (L2.oQ N vs) T n:=⟨o2,hp,λa ha=>b7 ha,tp⟩;refine⟨ts,p,rd _ z H z _ _ T n _ _ o3 h ⟨λC u9 o9 v4 R U s' B=>?_,λ_ _ _ _ _ _ _ B=>B.elim,λ_ _ _ _ _ _ _ B=>B.elim,λR d v C s' t' r' B=>k R d v C (Z s') t' r' B,e7⟩⟩;exact k R _ _ C (Z U.ok.base) (F.to U.tp (λ_ _=>rfl) (gO U.ok.sub)) .none B
end
end
end TL
namespace L2
section
variable{c:Type}[DecidableEq c]
noncomputable def sT(kvs:List (c×V))(k:c):Option V:=(kvs.find? λkv=>decide (kv.1=k)).map (·.2)
noncomputable def vY(kvs:List (c×V))(k:c)(v:V):List (c×V):=
 if(kvs.any λkv=>decide (kv.1=k))=wx then kvs.map (λkv=>if kv.1=k then(kv.1,v)else kv)else kvs++[(k,v)]
noncomputable def nZ(kvs:List (c×V))(k:c):List (c×V):=kvs.filter λkv=>decide (kv.1≠k)
def EO{p:c×V}{k}(e:p.1=k):sT (p::r) k=wz p.2:=by simp[sT,jL,e]
def EQ{p:c×V}{k}(e:¬p.1=k):sT (p::r) k=sT r k:=by simp[sT,jL,e]
theorem MT(k:c):∀kvs,(kvs.any λkv=>decide (kv.1=k))=(sT kvs k).isSome
|[]=>rfl
|p::r=>by
 rw[kP];by_cases e:p.1=k
 ·simp only[EO e,a9 e,aMe,UG]
 ·rw[EQ e,b8 e,BL];exact MT k r
def wE(kvs:List (c×V))(k:c)(v:V):(vY kvs k v).length<=kvs.length+1:=by
 unfold vY;grind
def xY.isSome_eq{o:Option V}{u:Option á}(r:xY o u):o.isSome=u.isSome:=by
 cases o with
 |none=>cases u with
  |none=>rfl
  |some _=>exact(show False from r).elim
 |some _=>cases u with
  |none=>exact(show False from r).elim
  |some _=>rfl
def KV.val(r:KV kvs vs)(k:c):xY (sT kvs k) (eo vs k):=by
 induction r with
 |nil=>exact e7
 |@cons p q ps qs h t ih=>
  refine Ä h λd f=>?_;by_cases e:p.1=k
  ·have a:=d.symm.trans e;have b:eo (q::qs) k=wz q.2:=by simp[eo,jL,a]
   rw[EO e,b];exact f
  ·have a:¬q.1=k:=λz=>e (d.trans z);have b:eo (q::qs) k=eo qs k:=by simp[eo,jL,a]
   rw[EQ e,b];exact ih
theorem KV.any{kvs:List (c×V)}{vs:List (c×á)}(r:KV kvs vs)(k:c):(kvs.any λkv=>decide (kv.1=k))=vs.any λkv=>decide (kv.1=k):=by
 induction r with
 |nil=>rfl
 |cons h t a=>rw[kP,kP,a,h.1]
def KV.repl{kvs:List (c×V)}{vs:List (c×á)}(r:KV kvs vs)(k:c)(d:fK y u) :
  KV (kvs.map λkv=>if kv.1=k then(kv.1,y)else kv) (vs.map λkv=>if kv.1=k then(kv.1,u)else kv):=by
 induction r with
 |nil=>exact .nil
 |@cons p q ps qs h t ih=>
  rw[aX,aX];refine .cons ?_ ih;lia
def KV.put(r:KV kvs vs)(k:c)(a:fK y u):KV (vY kvs k y) (stored vs k u):=by
 unfold vY stored;rw[r.any k];by_cases e:(vs.any λkv=>decide (kv.1=k))=wx
 ·rw[b7 e,b7 e];exact r.repl k a
 ·rw[a8 e,a8 e];exact Paired.snoc r ⟨gL,a⟩
def KV.drop(r:KV kvs vs)(k:c):KV (nZ kvs k) (without vs k):=by
 unfold nZ without
 induction r with
 |nil=>exact .nil
 |@cons p q ps qs h t ih=>
  obtain⟨d,g⟩:=h;rw[fQ,fQ];by_cases e:p.1=k
  ·lia
  ·have f:¬q.1=k:=λz=>e (d.trans z);have a:decide (p.1≠k)=true:=by simp[e]
   have b:decide (q.1≠k)=true:=by simp[f]
   rw[b7 a,b7 b];exact .cons ⟨d,g⟩ ih
def KV.keys{kvs:List (c×V)}{vs:List (c×á)}(r:KV kvs vs):kvs.map (·.1)=vs.map (·.1):=by
 unfold KV at r
 induction r with
 |nil=>rfl
 |cons h t a=>grind
theorem KV.length{kvs:List (c×V)}{vs:List (c×á)}(r:KV kvs vs):kvs.length=vs.length:=ae r
def aBd(kvs:List (c×V))(k:c):(nZ kvs k).length<=kvs.length:=cH _ _
end
def JA{k}(r:fK (kV k) u):(iI P w).is k u=true:=by
 cases k with
 |inl i=>obtain⟨t,e⟩:=(show∃t,u=o0 i t from r);subst e;exact NM P w i t
 |inr x=>obtain⟨t,e⟩:=(show∃t,u=aa x t from r);subst e;exact NL P w x t
theorem JB:∀{a:List lE}{us},fN (a.map kV) us->ItemsAre (iI P w) a us
|[],_,r=>by rw[jC]at r;cases r;exact .nil
|k::a,_,r=>by
 rw[aX]at r
 cases r with
 |cons h t=>exact .cons (JA h) (JB t)
abbrev KT(H:Hp):List (List lE×V)->List (List lE×à×á)->Prop:=Paired λp q=>p.1=q.1/\H q.2.1=wz (.tup (p.1.map kV))/\fK p.2 q.2.2
def KT.val(r:KT H kvs xs)(k:List lE):xY (sT kvs k) ((fy xs k).map (·.2)):=by
 induction r with
 |nil=>exact e7
 |@cons p q ps qs h t ih=>
  refine ñ h λc _ d=>?_;by_cases e:p.1=k
  ·have a:=c.symm.trans e;have b:fy (q::qs) k=wz q.2:=by simp[fy,jL,a]
   rw[EO e,b];exact d
  ·have a:¬q.1=k:=λz=>e (c.trans z);have b:fy (q::qs) k=fy qs k:=by simp[fy,jL,a]
   rw[EQ e,b];exact ih
def KT.repl{kvs:List (List lE×V)}{c:List (List lE×à×á)}(r:KT H kvs c)(k:List lE)(f:fK y u) :
  KT H (kvs.map λkv=>if kv.1=k then(kv.1,y)else kv) (c.map (putAt k u)):=by
 induction r with
 |nil=>exact .nil
 |@cons p q ps qs h t ih=>
  rw[aX,aX];refine .cons ?_ ih;refine ñ h λa b d=>?_;unfold putAt;lia
def KT.put(r:KT H kvs xs)(k:List lE){b:à}(hb:H b=wz (.tup (k.map kV)))(a:fK y u) :
  KT H (vY kvs k y) (storedH xs k b u):=by
 have e:(kvs.any λkv=>decide (kv.1=k))=(fy xs k).isSome:=by
  rw[MT,(r.val k).isSome_eq,WE]
 unfold vY storedH;rw[e];by_cases q:(fy xs k).isSome=wx
 ·rw[b7 q,b7 q];exact r.repl k a
 ·rw[a8 q,a8 q];exact Paired.snoc r ⟨gL,hb,a⟩
def KT.keeps{H a:Hp}(r:KT H kvs xs)(d:∀b c,H b=wz (.tup c)->a b=wz (.tup c)):KT a kvs xs:=
 Paired.mapP r λ_ _ z=>⟨z.1,d _ _ z.2.1,z.2.2⟩
section
variable{P:cO}{w:f8}{H:Hp}{h:ç}{a:à}
def Fy(ok:rG P w H h)(e:Rd H a u):jF P w H h a u:=e.ok ok
def N4{kvs:List (lE×V)}(ok:rG P w H h)(e:Rd H a (.dK kvs)):kvs.length<=bN/\(a==m6)=ww/\∃vs,KV kvs vs/\h.DictOf (iI P w) a vs:=
 show jF P w H h a (.dK kvs)from Fy ok e
def C7{kvs:List (lE×V)}(ok:rG P w H h)(e:H a=wz (.dK kvs)):kvs.length<=bN/\(a==m6)=ww/\∃vs,KV kvs vs/\h.DictOf (iI P w) a vs:=N4 ok (.inl e)
def FX{c:List lE}(ok:rG P w H h)(e:H a=wz (.tup (c.map kV))):(dq (iI P w)).is h c a:=by
 refine ă ((show jF P w H h a (.tup (c.map kV))from ok a _ e)) λ_ b r o d f n g _=>?_;exact⟨o,b.toArray,n,d,f,g,by simpa using JB r⟩
def TV{kvs:List (List lE×V)}(ok:rG P w H h)(e:Rd H a (.dT kvs)):kvs.length<=bN/\(a==m6)=ww /\
  ∃b,KT H kvs b/\h.DictOfH (dq (iI P w)) a b:=by
 obtain⟨z,y,b,r,o,d,c,f,g,i,j,k⟩:=(show jF P w H h a (.dT kvs)from Fy ok e);refine⟨z,y,b,r,o,d,c,f,g,i,j,λx hx=>?_,k⟩
 have all:∀{l:List (List lE×V)}{m:List (List lE×à×á)},KT H l m->∀x∈m,(dq (iI P w)).is h x.1 x.2.1:=by
  intro l m q
  induction q with
  |nil=>intro x hx;exact nomatch hx
  |@cons p q ps qs hq t ih=>
   intro x hx;rcases aQ.mp hx with e | hx
   ·subst e;exact FX ok (by rw[<- hq.1];exact hq.2.1)
   ·exact ih x hx
 exact all r x hx
def Na{kvs:List (List lE×V)}(ok:rG P w H h)(e:H a=wz (.dT kvs)):kvs.length<=bN/\(a==m6)=ww /\
  ∃b,KT H kvs b/\h.DictOfH (dq (iI P w)) a b:=TV ok (.inl e)
end
def zS(H:Hp)(a:à)(y:V)(r:Option V):Prop:=
 (∃kvs k,Rd H a (.dK kvs)/\y=kV k/\r=sT kvs k)\/∃kvs k b,Rd H a (.dT kvs)/\y=.ref b/\H b=wz (.tup (k.map kV))/\r=sT kvs k
def RC(H:Hp)(a:à)(y v:V)(c:Hp):Prop:=
 (∃kvs k,H a=wz (.dK kvs)/\y=kV k/\kvs.length<bN/\c=eS H a (.dK (vY kvs k v))) \/
 ∃kvs k b,H a=wz (.dT kvs)/\y=.ref b/\H b=wz (.tup (k.map kV))/\kvs.length<bN/\c=eS H a (.dT (vY kvs k v))
theorem zS.k{a:à}{k}(e:H a=wz (.dK kvs)):zS H a (kV k) (sT kvs k):=.inl ⟨kvs,k,.inl e,gL,gL⟩
theorem RC.k{a:à}{kvs:List (lE×V)}{k}(e:H a=wz (.dK kvs))(b:kvs.length<bN):RC H a (kV k) v (eS H a (.dK (vY kvs k v))):=.inl ⟨kvs,k,e,gL,b,gL⟩
section
variable{X:Cx}{d:List (à×Obj)}{f:St}{H:Hp}{s:ã}{a:à}{y v:V}{u r:á}{o:Option V}{A:e6}{E:á->ã->Prop}
def dL.big(I:dL X d f H s):m6<s.heap.objs.size:=by
 exact DY cS ((I.mod.glob.keeps I.bk).lt)
def VY{Q:á->ã->Prop}(C:A.units+1<v7)(I:dL X d f H s)(g:zS H a y (wz v))(q:fK y u)(h:∀i t,dL X d f H t->fK v i->Q i t) :
  å (ä X.prog X.w) A (y8 (.ref a) u) Q E s:=by
 rcases g with⟨kvs,k,e,m,l⟩ | ⟨kvs,k,b,e,m,x,l⟩
 ·subst m;refine Ø (N4 I.hok e) λz hd vs rel j=>?_;refine Â (xY.some_of (by rw[l];exact rel.val k)) λi hw c=>?_;exact wpAny_getItem_of (JA q) j.mapOf hw (h i _ (I.tok _) c)
 ·subst m;cases (show u=d7 b from q);refine Ø (TV I.hok e) λz hd F rel j=>?_;refine Â (xY.some_of (by rw[l];exact rel.val k)) λi hw c=>?_;refine Â (dB.mp hw) λp B n=>?_;refine wpAny_getItem_heap (bz C) (FX I.hok x) j B ?_;rw[n];exact h i _ (I.tok _) c
def Yo{Q:á->ã->Prop}(p:A.units+1<v7)(I:dL X d f H s)(g:zS H a y o)(j:fK y u)(h:∀m,dL X d f H m->Q (.bool (!o.isSome)) m) :
  å (ä X.prog X.w) A (d6 .NotIn u (.ref a)) Q E s:=by
 rcases g with⟨kvs,k,e,i,l⟩ | ⟨kvs,k,b,e,i,n,l⟩
 ·subst i;refine Ø (N4 I.hok e) λz hd vs rel c=>?_;refine wpAny_notIn_of (JA j) hd c.mapOf ?_;rw[<- (rel.val k).isSome_eq,<- l];exact h _ (I.tok _)
 ·subst i;cases (show u=d7 b from j);refine Ø (TV I.hok e) λz hd t rel c=>?_;refine wpAny_notIn_heap (bz p) (FX I.hok n) hd c ?_;have q:=(rel.val k).isSome_eq;rw[WE]at q;rw[<- q,<- l];exact h _ (I.tok _)
def EF{c:ç}{i:Nat}(I:dL X d f H s)(h:xz (H a))(g:fX a s.heap c)(e:∃q,c.get? a=wz q)(new:jF X.prog X.w (eS H a ob) c a ob) :
  dL X d f (eS H a ob) { s with heap:=c,toks:=i }:=
 I.write h (.inl gL) (λb q hb z=>(g.2 b hb).trans z) e new
def QY{b:ç}{kvs:List (lE×V)}(z:kvs.length<=bN)(hd:(a==m6)=ww)(rel:KV kvs vs)(c:b.DictOf (iI P w) a vs) :
  jF P w H' b a (.dK kvs):=⟨z,hd,vs,rel,c⟩
def VX{Q:Unit->ã->Prop}(S:A.units+1<v7)(I:dL X d f H s)(g:RC H a y v H')(G:fK y u)(F:fK v r)(h:∀J,dL X d f H' J->Q () J) :
  å (ä X.prog X.w) A (setItem (.ref a) u r) Q E s:=by
 rcases g with⟨kvs,k,e,p,l,n⟩ | ⟨kvs,k,b,e,p,B,l,n⟩
 ·subst p n;refine Ø (C7 I.hok e) λz hd vs rel m=>?_;have T:vs.length<=bN:=by rw[<- rel.length];exact z
  have t:(vY kvs k v).length<=bN:=by have:=wE kvs k v;lia
  refine wpAny_setItem_pairs (JA G) m λM i x=>h _ ?_;exact EF I (by rw[e];exact e7) x (by refine Ï i λq _ _ j _=>?_;exact ⟨q,j⟩) (QY t hd (rel.put k F) i)
 ·subst p n;cases (show u=d7 b from G);refine Ø (Na I.hok e) λz hd U rel m=>?_;have T:U.length<=bN:=by rw[<- ae rel];exact z
  have t:(vY kvs k v).length<=bN:=by have:=wE kvs k v;lia
  refine wpAny_setItem_heap (bz S) (FX I.hok B) m λM i x=>h _ ?_;refine Ā i λq L K j N O P _ R=>?_;refine EF I (by rw[e];exact e7) x ⟨q,j⟩ ⟨t,hd,_,(rel.put k B F).keeps λc W C=>?_,q,L,K,j,N,O,P,R⟩;rw[bZ (Mw C e (λz=>nomatch z))];exact C
end
section
variable{X:Cx}{b:List (à×Obj)}{c:St}{H:Hp}{s:ã}{a:à}{kvs:List (lE×V)}{k:lE}{u:á}{A:e6}{E:á->ã->Prop}
def Mz{more}{Q:á->ã->Prop}(I:dL X b c H s)(e:H a=wz (.dK kvs))(j:fK (kV k) u)(l:sT kvs k=wz v)(n:more=[]\/∃x,more=[x])
  (h:∀f o,dL X b c (eS H a (.dK (nZ kvs k))) o->fK v f->Q f o):å (ä X.prog X.w) A (call (.builtin "dict.pop") (.ref a::u::more)) Q E s:=by
 refine Ø (C7 I.hok e) λz hd vs rel m=>?_;refine Â (xY.some_of (by rw[<- l];exact rel.val k)) λf hw g=>?_
 have r:(keyPart u).isSome=true:=by
  cases k with
  |inl i=>refine Ã (show∃t,u=o0 i t from j) λt q=>?_;subst q;rfl
  |inr x=>refine Ã (show∃t,u=aa x t from j) λt q=>?_;subst q;rfl
 have p:argsOk "dict.pop" ⟨.ref a::u::more,[]⟩:=by
  rcases n with q | ⟨x,q⟩
  ·subst q;rfl
  ·subst q;rfl
 refine gh vN m.typeIs PySem.F.entry_dict_pop p (meets_dict_pop_there (iI X.prog X.w) a (JA j) more n r)
  ⟨vs,f,m,by rw[<- rel.length];exact z,hw,λB d y=>h f _ ?_ g⟩
 exact EF I (by rw[e];exact e7) y (by refine Ï d λq _ _ hq _=>?_;grind) (QY (bK (aBd kvs k) z) hd (rel.drop k) d)
def My{Q:á->ã->Prop}(I:dL X b c H s)(e:Rd H a (.dK kvs))(h:∀t d,dL X b c H d->Q (.int kvs.length t) d):å (ä X.prog X.w) A (call (.builtin "len") [.ref a]) Q E s:=by
 refine Ø (N4 I.hok e) λz hd vs rel f=>?_;refine call_len_dict hd f (by rw[<- rel.length];rw[bb]at z;lia) ?_;rw[<- rel.length];exact h _ _ (I.tok _)
end
def xu(i:æ):Prop:=∀b a,dz i ww b a=operate [b,a] (y8 b a)
def aC7{E:á->ã->Prop}{id}{Q:á->ã->Prop}
  (j:typeLookup (.type T) "__getitem__"=pure (wz (.builtin id))) (k:xu slice)
  (h:å (ä prog w) A (è value env) (λo c=>å (ä prog w) A (è slice env) (λi a=>a.TypeIs o T/\å (ä prog w) A (y8 o i) Q E a) E c) E s) :
  å (ä prog w) A (è (.Subscript value slice pos) env) Q E s:=by
 refine ip (eN h (λo c e=>eN e (λi a b=>?_) λ_ _ x=>x) λ_ _ x=>x);obtain⟨g,b⟩:=b;refine aG ?_;rw[getitemInPython_of_ne g.not_modules];refine aG (wpAny_specialOf g j ?_)
 have fin:å (ä prog w) A (dz slice ww o i) (λr d=>å (ä prog w) A (letTemporaryGo value o r >>= λ_=>pure r) Q E d) E a:=by
  rw[k o i];exact wpAny_operating (eN b (λr d f=>aG (wpAny_letTemporaryGo (bB f))) λ_ _ x=>x)
 first
  |exact bB (aG fin)
  |exact aG (bB (aG fin))
  |exact aG fin
def N6{s:ã}{a:à}(I:dL X pins σ H s)(g:zS H a y o):s.TypeIs (.ref a) "dict":=by
 rcases g with⟨kvs,k,e,_,_⟩ | ⟨kvs,k,b,e,_,_,_⟩
 ·refine Ø (N4 I.hok e) λ_ _ vs _ c=>?_;exact c.typeIs
 ·refine Ø (TV I.hok e) λ_ _ d _ c=>?_;exact c.typeIs
def XW(e ty:TE):TE:=λc H Q=>e c H λx d=>ty c d λy b=>∃a v,x=.ref a/\zS b a y (wz v)/\Q v b
def aCx(ty e:TE):TE:=λc H Q=>ty c H λy d=>e c d λx b=>∃a o,x=.ref a/\zS b a y o/\Q (.bl (!o.isSome)) b
def YB(f ty tv:TE):TS:=λD b H=>tv b H λv d=>f b d λx e=>ty b e λy H3=>∃a c,x=.ref a/\RC H3 a y v c/\D.nx b c
section
variable{X:Cx}{o i b:æ}{pos c:Pos}{d ty tv:TE}
def xC(w:X.A.units+1<v7)(r:PE X o d)(q:PE X i ty)(t:xu i):PE X (.Subscript o i pos) (XW d ty):=by
 intro e s k H Q I h;refine aC7 PySem.F.slot_dict_getitem.lookup t (jE (r e s k H _ I h) λu G o=>?_);refine Í o λx l n C z=>?_;refine jE (q e G k l _ n z) λK L J=>?_;refine ß J λy m j E a v ex g B=>?_;subst ex;obtain rfl:=C;exact⟨N6 j g,VY w j g E λM s3 p f=>⟨v,m,p,f,B⟩⟩
def IK(r:X.A.units+1<v7)(p:PE X i ty)(q:PE X o d):PC X .NotIn i o (aCx ty d):=by
 intro e s f H Q I h;refine jE (p e s f H _ I h) λF C o=>?_;refine Í o λy j l B v=>?_;refine jE (q e C f j _ l v) λu G E=>?_;refine ß E λx k m z a t ex g w=>?_;subst ex;obtain rfl:=z;exact Yo r m g B λs3 n=>⟨.bl (!t.isSome),k,n,gL,w⟩
def D7(B:X.A.units+1<v7)(w:PE X o d)(t:PE X i ty)(C:PE X b tv)(z:mH b (wz (.Subscript o i c)) pos.line X.env=pure ww) :
  PS X (.Assign [.Subscript o i c] b pos) (YB d ty tv):=by
 intro e s f H D I h;refine wpAny_Assign_Subscript (jE (C e s f H _ I h) λr M o=>?_) z;refine Í o λv j m J E=>?_;refine jE (w e M f j _ m E) λu N i=>?_;refine Í i λx k n K F=>?_;refine jE (t e N f k _ n F) λP s3 O=>?_;refine ß O λy H3 p L a l ex g G=>?_;subst ex;obtain rfl:=K;exact VX B p g L J λQ q=>⟨f,l,q,G⟩
end
def N5(h:ç)(hb:m6<h.objs.size):jF P w H (h.push { cls:=.type "dict",data:=.dict #[] }) h.objs.size (.dK []):=
 ⟨dA _,beq_eq_false_iff_ne.mpr (i5 (cU hb)),[],.nil,Heap.DictOf.new h⟩
def PF:TE:=λ_ H Q=>∀p,H p=wy->Q (.ref p) (eS H p (.dK []))
section
variable{X:Cx}{pos:Pos}
def NA:PE X (.Dict [] [] pos) PF:=λa s b H Q I h=>
 wpAny_Dict_empty ⟨.ref s.heap.objs.size,_,I.laid (λ_ _ q=>aK _ q) (aP _) (N5 s.heap I.big),gL,h _ (I.hok.fresh (aP _))⟩
end
def PD:List (TE×TE)->St->Hp->(List (V×V)->Hp->Prop)->Prop
|[],_,H,Q=>Q [] H
| (tk,tv)::r,σ,H,Q=>tk σ H λx a=>tv σ a λy b=>PD r σ b λc H3=>Q ((x,y)::c) H3
abbrev VV:List (V×V)->List (á×á)->Prop:=Paired λp q=>fK p.1 q.1/\fK p.2 q.2
def zf(X:Cx)(pos:Pos)(keys:List (Option æ))(a:List æ)(c:List (TE×TE)):Prop:=
 ∀b s d H Q,dL X b d H s->PD c d H Q ->
  å (ä X.prog X.w) X.A (evalPairs (pairTrees keys a X.env pos)) (λvs g=>∃f e,dL X b d e g/\VV f vs/\Q f e) X.xe s
def aD1:zf X pos [] [] []:=λa s b H Q I h=>pairTrees_nil_walk ⟨[],H,I,.nil,h⟩
def AN{k tv}(i:PE X k tk)(l:PE X v tv)(j:zf X pos ks vs trs) :
  zf X pos (wz k::ks) (v::vs) ((tk,tv)::trs):=λa s b H Q I h=>pairTrees_cons_walk (jE (i a s b H _ I h) λu t Z=>by refine Í Z λx c e q n=>?_;exact jE (l a t b c _ e n) λz w Y=>by refine Í Y λy d f r o=>?_;exact jE (j a w b d _ f o) λA s3 W=>by refine Í W λm H3 g rel p=>?_;exact ⟨(x,y)::m,H3,g,.cons ⟨q,r⟩ rel,p⟩)
noncomputable def FR(kvs more:List (lE×V)):List (lE×V):=more.foldl (λa kv=>vY a kv.1 kv.2) kvs
def KV.merge:∀{more rs kvs vs},KV more rs->KV kvs vs->KV (FR kvs more) (merged vs rs):=by
 intro more rs kvs vs r
 induction r generalizing kvs vs with
 |nil=>intro q;exact q
 |@cons p q ps qs h t ih=>
  intro a
  have e:KV (vY kvs p.1 p.2) (stored vs q.1 q.2):=by
   have:=a.put p.1 h.2;rw[<- h.1];exact this
  exact ih e
theorem yF:∀more kvs,(FR kvs more).length<=kvs.length+more.length
|[],kvs=>by show kvs.length<=kvs.length+0;lia
|p::r,kvs=>by
 have a:=yF r (vY kvs p.1 p.2);have b:=wE kvs p.1 p.2;show(FR (vY kvs p.1 p.2) r).length<=_;rw[bD];lia
theorem GM:∀{kvs:List (lE×V)}{ws},VV (kvs.map λkv=>(kV kv.1,kv.2)) ws->∃rs,Carries (iI P w) ws rs/\KV kvs rs
|[],_,r=>by rw[jC]at r;cases r;exact⟨[],e7,.nil⟩
|p::kvs,_,r=>by
 rw[aX]at r
 cases r with
 |@cons a b as bs h t=>
  obtain⟨rs,c,q⟩:=GM t;obtain⟨e,d⟩:=b;exact⟨(p.1,d)::rs,⟨JA h.1,gL,c⟩,.cons ⟨gL,h.2⟩ q⟩
def Gi(a:List (TE×TE)):TE:=λd H Q=>∀p,H p=wy->PD a d (eS H p (.dK [])) λc b=>b p=wz (.dK [])/\∃kvs,c=kvs.map (λkv=>(kV kv.1,kv.2))/\kvs.length<=15/\Q (.ref p) (eS b p (.dK (FR [] kvs)))
def aD9{keys:List (Option æ)}{b:List æ}(h:zf X pos keys b trs)(f:keys.all (·.isSome)=wx)(p:keys.length=b.length)(m:keys≠[])
  (i:keys.length<=15):PE X (.Dict keys b pos) (Gi trs):=by
 intro g s B H Q I q;refine wpAny_Dict_walk (knd:=iI X.prog X.w) f p m i (jE (h g _ B _ _ (I.laid (a:=s.heap.objs.size) (o:=.dK []) (h':=s.heap.push { cls:=.type "dict",data:=.dict #[] }) (t':=s.toks) (λ_ _ q=>aK _ q) (aP _) (N5 s.heap I.big)) (q _ (I.hok.fresh (aP s.heap.objs.size)))) λJ G A=>?_);refine ą A λF C j rel e kvs l E u=>?_;subst l;obtain⟨rs,c,x⟩:=GM rel;refine Ø (C7 j.hok e) λz hd y v k=>?_;cases v;refine⟨rs,c,k,λh' d r=>⟨.ref s.heap.objs.size,_,?_,gL,u⟩⟩
 have t:(FR [] kvs).length<=bN:=by
  have n:=yF kvs [];rw[rH]at n;rw[bb];lia
 exact EF j (by rw[e];exact e7) r (by refine Ï d λq _ _ hq _=>?_;exact ⟨q,hq⟩) (QY t hd (x.merge .nil) d)
end L2
namespace TL
open L2
noncomputable def iK(s:é)(j:Nat):Stmt:=match s with
|.ClassDef _ _ _ b _ _ _ _ _ _ _=>b.getD j (.Pass ⟨0,0,0,0⟩)
|_=>.Pass ⟨0,0,0,0⟩
noncomputable def QO(C:à)(ns:List â)(a:List D):D:=.dict [(.str "obj",.tuple [.int (C:Nat),.list (ns.map aI),.list a])]
theorem MY:∀{b c:List â},b.map aI=c.map aI->b=c
|[],[],_=>rfl
|[],_::_,h=>by cases h
|_::_,[],h=>by cases h
|x::b,y::c,h=>by
 rw[aX,aX]at h;injection h with a d
 injection a with a
 rw[a,MY d]
def D4{K}{H:Hp}{C:à}(r:gW K H (QO C ns ds) v):∃(p dx:à)(fs:List (â×V)),v=.ref p/\H p=wz (.ins C dx fs)/\fs.map (·.1)=ns/\Reps K H ds (fs.map (·.2)):=by
 unfold QO at r
 generalize a:(oG [(.str "obj",.tuple [.int (C:Nat),.list (ns.map aI),.list ds])])=d at r
 cases r with
 |@ins p C' dx fs ds' h1 h2=>
  injection a with a
  injection a with a _
  injection a with _ a
  injection a with a
  injection a with b a
  injection a with c a
  injection a with e _
  injection b with b
  injection c with c
  injection e with e
  obtain rfl:C=C':=kL.inj b;subst e;exact⟨p,dx,fs,gL,h1,(MY c).symm,h2⟩
 |dct=>
  lia
 |addr z=>
  lia
 |_=>cases a
theorem FU{K}:∀{fs:List (â×V)}{ds},Reps K H ds (fs.map (·.2))->((fs.map (·.1)).zip ds).lookup f=wz x->∃v,fs.lookup f=wz v/\gW K H x v
|[],_,_,h=>by cases h
| (g,u)::fs,ds,r,h=>by
 cases r with
 |@cons t ts _ _ r1 r2=>
  show∃v,(match f==g with | true=>wz u | false=>fs.lookup f)=wz v/\_;have a:(match f==g with | true=>wz t | false=>((fs.map (·.1)).zip ts).lookup f)=wz x:=h
  cases hb:f==g with
  |true=>
   lia
  |false=>
   rw[hb]at a;exact FU r2 a
theorem pY:∀{fs:List (â×V)},f∉fs.map (·.1)->fs.lookup f=wy
|[],_=>rfl
| (g,u)::fs,h=>by
 grind
section
variable{X:Cx}{o e:æ}{b:ET}{pos:Pos}
def Jv(K:aH)(f:â)(b:ET):ET:=λc Q=>b c λd=>∃C ns a x,d=QO C ns a/\BN K C/\fW K C f/\(ns.zip a).lookup f=wz x/\Q x
def pP{K}(m:X.K=K)(s:fP X e b)(hb:autoParam (g8 e f X.env (è e X.env)=è e X.env) zzz._auto_1):fP X (.Attribute e f pos) (Jv K f b):=by
 subst m;refine Â s λv p r=>?_;refine⟨_,PY p hb,λB z H A g I Q J o h k=>r B z H A g I _ _ o h λd x i G F E=>?_⟩;refine ð E λC ns L y d n u t q=>?_;subst d;refine ý (D4 F) λa dx fs d j Z l=>?_;subst d Z;refine Â (FU l t) λw hw c=>?_;exact⟨a,C,dx,fs,w,gL,bX _ _ j,n,u,hw,k _ _ i G c q⟩
end
inductive vD(K:aH)(H:Hp):List (Int×D)->List (lE×V)->Prop
|nil:vD K H [] []
|cons {i:Int} {d:D} {v:V} {a:List (Int×D)} {b:List (lE×V)} (r:gW K H d v) (t:vD K H a b):vD K H ((i,d)::a) ((.inl i,v)::b)
noncomputable def FC(kvs:List (Int×D))(i:Int)(d:D):List (Int×D):=if kvs.any (λe=>decide (e.1=i))=wx then kvs.map (λe=>if e.1=i then(e.1,d)else e)else kvs++[(i,d)]
noncomputable def C6(kvs:List (Int×D))(i:Int):List (Int×D):=kvs.filter λe=>decide (e.1≠i)
noncomputable def qB(kvs:List (Int×D))(i:Int):Option D:=(kvs.find? λe=>decide (e.1=i)).map (·.2)
section
variable{K:aH}{H c:Hp}
theorem vD.same(s:bF H c){a b}(h:vD K H a b):vD K c a b:=by
 induction h with
 |nil=>exact .nil
 |cons r t n=>exact .cons (r.same s) n
theorem vD.length:∀{a:List (Int×D)}{b:List (lE×V)},vD K H a b->a.length=b.length
|_,_,.nil=>rfl
|_,_,.cons r t=>d8 (·+1) t.length
theorem vD.vals:∀{a:List (Int×D)}{b:List (lE×V)},vD K H a b->Reps K H (a.map (·.2)) (b.map (·.2))
|_,_,.nil=>.nil
|_,_,.cons r t=>.cons r t.vals
theorem vD.val(i:Int):∀{a b},vD K H a b->(qB a i=wy/\sT b (.inl i)=wy)\/∃d v,qB a i=wz d/\sT b (.inl i)=wz v/\gW K H d v:=by
 intro _ _ h
 induction h with
 |nil=>exact .inl ⟨gL,gL⟩
 |@cons j d v a b r t n=>
  unfold qB sT;rw[jL,jL];by_cases e:j=i
  ·subst e;refine .inr ⟨d,v,?_,?_,r⟩<;>simp
  ·have f:¬((n9 j:lE)=.inl i):=λz=>e (bh z);rw[show decide ((j,d).1=i)=ww from b8 e,show decide (((n9 j:lE),v).1=.inl i)=ww from b8 f];exact n
theorem vD.any(i:Int):∀{a:List (Int×D)}{b:List (lE×V)},vD K H a b->(a.any λe=>decide (e.1=i))=b.any λe=>decide (e.1=.inl i):=by
 intro _ _ h
 induction h with
 |nil=>rfl
 |@cons j d v a b r t n=>
  rw[kP,kP,n];congr 1;show decide (j=i)=decide ((n9 j:lE)=.inl i);rw[gE,c8,c8];exact⟨λz=>by rw[z],λz=>bh z⟩
theorem vD.map(i:Int)(r:gW K H d v):∀{a:List (Int×D)}{b:List (lE×V)},vD K H a b->vD K H (a.map λe=>if e.1=i then(e.1,d)else e) (b.map λe=>if e.1=.inl i then(e.1,v)else e):=by
 intro _ _ h
 induction h with
 |nil=>exact .nil
 |@cons j x y a b r0 t n=>
  rw[aX,aX];by_cases e:j=i
  ·subst e;rw[b7 gL,b7 rfl];exact .cons r n
  ·rw[a8 e,a8 λz:(n9 j:lE)=.inl i=>e (bh z)];exact .cons r0 n
theorem vD.snoc{i:Int}(r:gW K H d v):∀{a b},vD K H a b->vD K H (a++[(i,d)]) (b++[(.inl i,v)])
|_,_,.nil=>.cons r .nil
|_,_,.cons r0 t=>.cons r0 (t.snoc r)
def vD.put{i:Int}(r:gW K H d v)(h:vD K H a b):vD K H (FC a i d) (vY b (.inl i) v):=by
 unfold FC vY;rw[h.any i];split
 ·exact h.map i r
 ·exact h.snoc r
theorem vD.drop(i:Int):∀{a b},vD K H a b->vD K H (C6 a i) (nZ b (.inl i)):=by
 intro _ _ h
 induction h with
 |nil=>exact .nil
 |@cons j x y a b r0 t n=>
  unfold C6 nZ;rw[fQ,fQ];by_cases e:j=i
  ·subst e;rw[a8 gC,a8 gC];exact n
  ·rw[b7 (by lia),b7 (by lia)];exact .cons r0 n
end
set_option genInjectivity true in
structure Bk where
 p:à
 q:à
 dx:à
 fm:D
 dp:Int
 ls:Int
structure HF where
 kvs:List (Int×D)
 fol:Int
 st:D
noncomputable def lA(T:Bk):D:=.dict [(.str "@",.list [.int (T.p:Nat),.int (T.q:Nat),.int (T.dx:Nat),T.fm,.int T.dp,.int T.ls])]
def gU(h:lA S=lA T):S=T:=by
 injection h with h
 injection h with h _
 injection h with _ h
 injection h with h
 injection h with g h
 injection h with i h
 injection h with j h
 injection h with m h
 injection h with k h
 injection h with l _
 injection g with g
 injection i with i
 injection j with j
 injection k with k
 injection l with l
 obtain⟨a,b,c,d,e,f⟩:=S;obtain⟨n,o,p,q,r,s⟩:=T;simp only[Bk.mk.injEq];exact⟨kL.inj g,kL.inj i,kL.inj j,m,k,l⟩
def KS{K}(T:Bk):gW K H (lA T) (.ref T.p):=.addr _
def M7{K}{x:à}(r:gW K H (.dict [(.str "@",.list (.int (x:Nat)::z))]) v):v=.ref x:=by
 generalize a:(oG [(.str "@",.list (.int (x:Nat)::z))])=d at r
 cases r with
 |@addr p z=>
  injection a with a
  injection a with a _
  injection a with _ a
  injection a with a
  injection a with a _
  injection a with a
  rw[kL.inj a]
 |dct=>
  lia
 |_=>cases a
def PM{K}{T:Bk}(r:gW K H (lA T) v):v=.ref T.p:=M7 r
noncomputable def LZ(T:Bk)(a b:V)(n:HF):List (â×V):=[("form",a),("deep",.int T.dp),("least",.int T.ls),("numbered",.ref T.q),("following",.int n.fol),("standing",b)]
def L0(C:à)(T:Bk)(K:aH)(H:Hp)(a:List à)(n:HF):Prop:=T.p≠T.q/\∃b c kv,H T.p=wz (.ins C T.dx (LZ T b c n))/\H T.q=wz (.dK kv)/\gW K (ê H a) T.fm b/\gW K (ê H a) n.st c/\vD K (ê H a) n.kvs kv
noncomputable def mM(C:à):sZ where
 I:=Bk
 S:=HF
 ad:=λT=>[T.p,T.q]
 tau:=lA
 At:=L0 C
 to:=λ{T K H H' ps u9 n} h e s=>by
  obtain⟨di,v1,v6,kv,h1,h2,h3,h4,h5⟩:=h;exact⟨di,v1,v6,kv,by grind,by grind,h3.same s,h4.same s,h5.same s⟩
 liv:=λ{T K H ps n} h a ha=>by
  obtain⟨di,v1,v6,kv,h1,h2,_⟩:=h;rcases aQ.mp ha with rfl | ha
  ·exact⟨_,h1,gL⟩
  ·rw[aU.mp ha];exact⟨_,h2,gL⟩
 inj:=gU
noncomputable def Bj(T:Bk)(n:HF):List (â×D):=[("form",T.fm),("deep",.int T.dp),("least",.int T.ls),("following",.int n.fol),("standing",n.st)]
def Zt{K}{T:Bk}{n:HF}(g:gW K H T.fm v1)(i:gW K H n.st v6)(h:(Bj T n).lookup f=wz y):∃v,(LZ T v1 v6 n).lookup f=wz v/\gW K H y v:=by
 by_cases a:f="form"
 ·subst a;cases h;exact⟨v1,gL,g⟩
 by_cases b:f="deep"
 ·subst b;cases h;exact⟨_,gL,.int _⟩
 by_cases c:f="least"
 ·subst c;cases h;exact⟨_,gL,.int _⟩
 by_cases d:f="following"
 ·subst d;cases h;exact⟨_,gL,.int _⟩
 by_cases e:f="standing"
 ·subst e;cases h;exact⟨_,gL,i⟩
 refine b9 h ?_;unfold Bj;rw[cT,beq_eq_false_iff_ne.mpr a,cT,beq_eq_false_iff_ne.mpr b,cT,beq_eq_false_iff_ne.mpr c,cT,beq_eq_false_iff_ne.mpr d,cT,beq_eq_false_iff_ne.mpr e]
 simp
section
variable{X:Cx}{C:à}{e i o b:æ}{c E:ET}{pos m G l:Pos}{f:â}
def mX{K}{T a:Bk}(o:pG (mM C) K B p0 H ps gc σ T n)(s:bF H H1)(r:gW K (ê H1 ps) (lA a) v)(h:lA a=lA T) :
  v=.ref T.p/\L0 C T K H1 ps n:=by
 cases gU h;exact⟨PM r,(o.grow s).tp⟩
def Lh(C:à)(f:â)(c:ET):EZ (mM C):=λa n g Q=>c g λd=>d=a/\∃T x,a=lA T/\(Bj T n).lookup f=wz x/\Q n x
def uZ(I:BN X.K C)(M:fW X.K C f)(J:fP X e c)(hb:autoParam (g8 e f X.env (è e X.env)=è e X.env) zzz._auto_1):uE (F:=mM C) X (.Attribute e f pos) (Lh C f c):=by
 refine Â J λv p r=>?_;refine⟨_,PY p hb,λB P H R j W T n Q Y o h k=>r B P H R j W _ _ o.ok h λd x t s U S=>?_⟩;refine ó S λm Z y O L q=>?_;subst m;refine Ä (mX o s U gL) λm a=>?_;subst m;cases gU O;refine Ć (id a) λN v1 v6 kv u h2 z A h5=>?_;refine Â (Zt z A L) λw hw g=>?_;exact⟨_,C,_,_,w,gL,u,I,M,hw,k n y w t (.of s) a g q⟩
def zJ(a:BN X.K C)(d:fW X.K C "numbered")(p:PE X e v)(hb:autoParam (g8 e "numbered" X.env (è e X.env)=è e X.env) zzz._auto_1):PE X (.Attribute e "numbered" pos) (Ds X.K v "numbered"):=PY p hb
def Ll(C:à)(E c:ET):TZ (mM C):=λg n a Q=>E a λy=>∃j,y=.int j/\c a λd=>d=g/\Q n (qB n.kvs j).isNone
def XI(hu:X.A.units+1<v7)(J:BN X.K C)(L:fW X.K C "numbered")(Z:fP X i E)(Y:fP X e c)(hb:autoParam (g8 e "numbered" X.env (è e X.env)=è e X.env) zzz._auto_1)(hm:autoParam (i0 .NotIn (.Attribute e "numbered" l)=false) zzz._auto_1) :
  hV (F:=mM C) X (.Compare i [.NotIn] [.Attribute e "numbered" l] pos) (Ll C E c):=by
 refine Â Y λv p r=>?_;refine Â Z λvi pi ri=>?_;refine⟨_,YW (IK hu pi (zJ J L p hb)) hm,λB M H N g P T n Q QV o h k=>?_⟩;refine ri B M H N g P _ _ o.ok h λy yv R I r1 z=>?_;obtain⟨j,rfl,z⟩:=z;cases r1;refine r B M R N g P _ _ (o.grow I).ok z λd x S O r2 q2=>?_;refine Ä q2 λy q=>?_;subst y;refine Ä (mX (o.grow I) O r2 gL) λy a=>?_;subst y;refine ć (id a) λ_ _ _ _ u _=>?_;refine⟨_,C,_,_,_,gL,u,J,L,gL,?_⟩;refine Ć (id a) λdi v1 v6 kv h1 U h3 h4 W=>?_;refine⟨T.q,sT kv (.inl j),gL,zS.k (k:=.inl j) U,_,gL,k n _ S ((iE.of I).trans (.of O)) a ?_⟩;rcases W.val j with⟨s,t⟩ | ⟨d,w,s,t,_⟩
 ·rw[s]at q;rw[t];exact q
 ·rw[s]at q;rw[t];exact q
def Li(C:à)(c E:ET):EZ (mM C):=λg n a Q=>c a λd=>d=g/\E a λy=>∃j x,y=.int j/\qB n.kvs j=wz x/\Q n x
def Wf(hu:X.A.units+1<v7)(N:BN X.K C)(O:fW X.K C "numbered")(he:fP X e c)(hi:fP X i E)(hs:autoParam (xu i) zzv._auto_1)(hb:autoParam (g8 e "numbered" X.env (è e X.env)=è e X.env) zzz._auto_1) :
  uE (F:=mM C) X (.Subscript (.Attribute e "numbered" l) i pos) (Li C c E):=by
 refine Â he λv p r=>?_;refine Â hi λvi pi ri=>?_;refine⟨_,xC hu (zJ N O p hb) pi hs,λB P H R t U T n Q QV o h k=>?_⟩;refine r B P H R t U _ _ o.ok h λd x W u r1 J=>?_;obtain⟨rfl,J⟩:=J;refine Ä (mX o u r1 gL) λy z=>?_;subst y;refine ć (id z) λ_ _ _ _ I _=>?_;refine⟨_,C,_,_,_,gL,I,N,O,gL,?_⟩;refine ri B P W R t U _ _ (o.grow u).ok J λy yv Y S r2 q2=>?_;refine Í q2 λj x y g q=>?_;subst y;cases r2;have a:=((o.grow u).grow S).tp;refine Ć (id a) λdi v1 v6 kv h1 Z h3 h4 h5=>?_;rcases h5.val j with⟨s,M⟩ | ⟨d,w,s,M,L⟩
 ·lia
 ·rw[g]at s;cases s;refine⟨T.q,w,gL,?_,k n x w Y ((iE.of u).trans (.of S)) a L q⟩;have:=zS.k (k:=.inl j) Z;rw[M]at this;exact this
def Hf{K}{T:Bk}(a:L0 C T K H ps n)(g:T.q∈ps)(h:vD K (ê H ps) kvs kv):L0 C T K (eS H T.q (.dK kv)) ps { n with kvs:=kvs }:=by
 refine Ć a λd s t r j u k p v=>?_;refine⟨d,s,t,kv,by rw[bZ d];exact j,bU,?_,?_,?_⟩
 ·rw[fS g];exact k
 ·rw[fS g];exact p
 ·rw[fS g];exact h
def BY{p:à}(h:p∈as):iE as H (eS H p u):=λa o ne e=>by
 rw[bZ (show a≠p fromλz=>ne (by rw[z];exact h))];exact e
def pG.there{F:sZ}{K B H p0 ps gc σ T n n'}(o:pG F K B p0 H ps gc σ T n){p:à}{u}(a:p∈F.ad T)(t:F.At T K (eS H p u) ps n'):pG F K B p0 (eS H p u) ps gc σ T n':=o.growX (BY a) t
def Lo(C:à)(c E tv:ET):SZ (mM C):=λh g n a=>tv a λx=>c a λd=>d=h/\E a λy=>∃j,y=.int j/\n.kvs.length<=100000/\g.nx { n with kvs:=FC n.kvs j x } a
def XY{tv}(hu:X.A.units+1<v7)(O:BN X.K C)(P:fW X.K C "numbered")(W:fP X e c)(Y:fP X i E)(hv:fP X b tv)(hs:autoParam (mH b (wz (.Subscript (.Attribute e "numbered" l) i m)) pos.line X.env=pure false) zzz._auto_1)(hb:autoParam (g8 e "numbered" X.env (è e X.env)=è e X.env) zzz._auto_1) :
  zX (F:=mM C) X (.Assign [.Subscript (.Attribute e "numbered" l) i m] b pos) (Lo C c E tv):=by
 refine Â W λv p r=>?_;refine Â Y λvi pi ri=>?_;refine Â hv λvv pv rv=>?_;refine⟨_,D7 hu (zJ O P p hb) pi pv hs,λB J H t a u T n DC DV o h f=>?_⟩;refine rv B J H t a u _ _ o.ok h λx xv R g r0 q0=>?_;refine r B J R t a u _ _ (o.grow g).ok q0 λd xd S s r1 L=>?_;obtain⟨rfl,L⟩:=L;refine Ä (mX (o.grow g) s r1 gL) λy w=>?_;subst y;refine ć (id w) λ_ _ _ _ z _=>?_;refine⟨_,C,_,_,_,gL,z,O,P,gL,?_⟩;refine ri B J S t a u _ _ ((o.grow g).grow s).ok L λy yv H2 M r2 q2=>?_;refine Å q2 λj y hz q=>?_;subst y;cases r2;have I:=((o.grow g).grow s).grow M;refine Ć (id I.tp) λZ v1 v6 kv h1 U h3 h4 N=>?_;have hL:bN=2^24:=rfl;refine⟨T.q,_,gL,RC.k (k:=.inl j) U (by rw[<- N.length];lia),?_⟩;have Q:=o.mem' T.q (by show T.q∈[T.p,T.q];simp);exact f.nx _ t a u _ (I.there (by show T.q∈[T.p,T.q];simp) (Hf I.tp Q (N.put (i:=j) (r0.same (bR (s.trans M)))))) ((bR (g.trans (s.trans M))).trans (by rw[fS Q];exact L2.bF.refl _)) q
def He{K}{T:Bk}{d:HF}(a:T.p≠T.q)(h:H T.q=wz (.dK kv))(j:gW K (ê H ps) T.fm v1)(k:gW K (ê H ps) d.st v6)(n:vD K (ê H ps) d.kvs kv)(g:T.p∈ps):L0 C T K (eS H T.p (.ins C T.dx (LZ T v1 v6 d))) ps d:=
 ⟨a,v1,v6,kv,bU,by rw[bZ (i5 a)];exact h,by rw[fS g];exact j,by rw[fS g];exact k,by rw[fS g];exact n⟩
def Ue(C:à)(c tv:ET):SZ (mM C):=λh g n a=>c a λd=>d=h/\tv a λx=>∃j,x=.int j/\g.nx { n with fol:=n.fol+j } a
def aC3{tv}(U:BN X.K C)(Y:fW X.K C "following")(W:fP X e c)(Z:fP X b tv):zX (F:=mM C) X (.AugAssign (.Attribute e "following" G) .Add b pos) (Ue C c tv):=by
 refine Â W λv p r=>?_;refine Â Z λvv pv rv=>?_;refine⟨_,UY p pv Vm,λB J H k g z T n DC DV o h f=>?_⟩;refine r B J H k g z _ _ o.ok h λd xd N s r1 x=>?_;obtain⟨rfl,x⟩:=x;refine Ä (mX o s r1 gL) λy t=>?_;subst y;refine Ć (id t) λw L M kv A P Q R S=>?_;refine⟨_,C,_,_,_,gL,A,U,Y,gL,?_⟩;refine rv B J N k g z _ _ (o.grow s).ok x λy yv O a r2 q2=>?_;refine Â q2 λj y q=>?_;subst y;cases r2;have I:=o.mem' T.p (by show T.p∈[T.p,T.q];simp);refine⟨_,_,gL,gL,T.dx,LZ T L M n,a _ _ A,gJ,?_⟩;have u:L0 C T X.K (eS O T.p (.ins C T.dx (LZ T L M { n with fol:=n.fol+j }))) k { n with fol:=n.fol+j }:=He w (a _ _ P) (Q.same (bR a)) (R.same (bR a)) (S.same (bR a)) I;exact f.nx _ k g z _ (((o.grow s).grow a).there (by show T.p∈[T.p,T.q];simp) u) ((bR (s.trans a)).trans (by rw[fS I];exact L2.bF.refl _)) q
def Ul(C:à)(c:ET)(tv:EZ (mM C)):SZ (mM C):=λg h n a=>tv g n a λn1 x=>c a λd=>d=g/\h.nx { n1 with st:=x } a
def aC0{tv}(P:BN X.K C)(R:fW X.K C "standing")(Q:fP X e c)(U:uE X b tv)(S:autoParam (mH b (wz (.Attribute e "standing" m)) pos.line X.env=pure false) zzz._auto_1):zX (F:=mM C) X (.Assign [.Attribute e "standing" m] b pos) (Ul C c tv):=by
 refine Â Q λv p r=>?_;refine Â U λvv pv rv=>?_;refine⟨_,uQ p pv S,λB z H g a w T n DC DV o h f=>?_⟩;refine rv B z H g a w T n _ _ o h λn1 x xv I A t0 Z W=>?_;have u:=o.growX A t0;refine r B z I g a w _ _ u.ok W λd xd J j r1 Y=>?_;refine Ä Y λl q=>?_;subst l;refine Ä (mX u j r1 gL) λl k=>?_;subst l;refine Ć (id k) λt v1 v6 kv L M N h4 O=>?_;have y:=o.mem' T.p (by show T.p∈[T.p,T.q];simp);refine⟨_,C,_,_,gL,L,P,R,gJ,?_⟩;have s:L0 C T X.K (eS J T.p (.ins C T.dx (LZ T v1 xv { n1 with st:=x }))) g { n1 with st:=x }:=He t M N (Z.same (bR j)) O y;exact f.nx _ g a w _ ((u.grow j).there (by show T.p∈[T.p,T.q];simp) s) ((A.mask o.mem').trans ((bR j).trans (by rw[fS y];exact L2.bF.refl _))) q
end
end TL
namespace L2
open TL
section
variable{X:Cx}{c:List (à×Obj)}{f:St}{H d:Hp}{s:ã}
def dL.laidM{h:ç}{j:Nat}(I:dL X c f H s)(k:∀b u,s.heap.get? b=wz u->h.get? b=wz u)(g:bF H d)(new:∀a o,d a=wz o->H a=wy->s.heap.objs.size<=a/\jF X.prog X.w d h a o):dL X c f d { s with heap:=h,toks:=j }:=by
 refine I.un ⟨λb ob q _ _ _=>k b ob q,λb ob q _ _ _=>⟨ob.slots,k b ob q⟩,λb ob q n _=>?_,λb ob q _=>⟨ob,k b ob q⟩,λb l q=>g _ _ q,λb o u q=>g _ _ q,λb m q=>⟨#[],by rw[g _ _ q];simp⟩⟩ λa o e=>?_
 ·cases e:d b with
  |none=>rfl
  |some o=>exact b9 (bC q) (aB7.mpr (new b o e n).1)
 ·cases q:H a with
  |none=>exact(new a o e q).2
  |some u=>
   have i:=g _ _ q;rw[e]at i;cases i;exact(I.hok a o q).stay (λb v _ z=>k b v z) (λb z=>g _ _ z) (λb l z=>g _ _ z) λb ob v z=>g _ _ z
end
theorem NN{i:Type}{b:à}{y:i}:∀{c:List à}{f:List i}{j:Nat},c.Nodup->c[j]?=wz b->f[j]?=wz y->(c.zip f).lookup b=wz y
|[],_,j,_,h,_=>by simp at h
|a::c,[],j,_,_,h=>by simp at h
|a::c,z::f,0,_,h1,h2=>by
 simp_all
|a::c,z::f,j+1,nd,h1,h2=>by
 rw[kI]at nd;have d:c[j]?=wz b:=by simpa using h1
 have g:f[j]?=wz y:=by simpa using h2
 have ne:(b==a)=false:=beq_eq_false_iff_ne.mpr λe=>nd.1 (e▸aZ d);rw[WZ,cT,ne];exact NN nd.2 d g
theorem FV{f:Type}{b:à}{y:f}:∀{c:List à}{d:List f},(c.zip d).lookup b=wz y->∃j:Nat,c[j]?=wz b/\d[j]?=wz y
|[],_,h=>by simp[lX]at h
|a::c,[],h=>by simp[lX]at h
|a::c,z::d,h=>by
 rw[WZ,cT]at h
 cases e:(b==a)with
 |true=>
  rw[e]at h;have g:b=a:=bj e;exact⟨0,by simp[g],by simpa using h⟩
 |false=>
  rw[e]at h;obtain⟨j,i,k⟩:=FV h;exact⟨j+1,by simpa using i,by simpa using k⟩
end L2
namespace TL
open L2
theorem CW{K}:∀{a:List D}{vs:List V},a.length=vs.length->(∀(j:Nat)(d:D)(v:V),a[j]?=wz d->vs[j]?=wz v->gW K H d v)->Reps K H a vs
|[],[],_,_=>.nil
|[],_::_,h,_=>by simp at h
|_::_,[],h,_=>by simp at h
|d::a,v::vs,h,k=>.cons (k 0 d v gL gL) (CW (by simpa using h) λj b f c e=>k (j+1) b f (by simpa using c) (by simpa using e))
end TL
namespace L2
open TL
noncomputable def HN(v p:à):HO:=.ext λh=>h.IsValuesView v p
noncomputable def HP(v p:à):HO:=.ext λh=>h.IsItemsView v p
theorem S5{a:Type}{kvs:List (a×V)}{vs:List (a×á)}(h:KV kvs vs):fN (kvs.map (·.2)) (vs.map (·.2)):=by
 induction h with
 |nil=>exact .nil
 |cons r t n=>exact .cons r.2 n
theorem Hz{e:Type}{kvs:List (e×V)}{vs:List (e×á)}{j:Nat}{k:e}{x}(h:KV kvs vs)(g:vs[j]?=wz (k,x)):∃v,kvs[j]?=wz (k,v)/\fK v x:=by
 induction h generalizing j with
 |nil=>simp at g
 |cons r t n=>
  cases j with
  |zero=>simp at g;subst g;exact⟨_,congrArg (λz=>wz (z,_)) r.1,r.2⟩
  |succ j=>obtain⟨v,c,d⟩:=n (by simpa using g);exact⟨v,by simpa using c,d⟩
def S7{k}(h:(iI P w).is k u=wx):fK (kV k) u:=by
 rcases jR h with⟨i,t,rfl,rfl⟩ | ⟨x,t,rfl,rfl⟩<;>exact⟨t,gL⟩
section
variable{X:Cx}
def P9:OY X "dict.values" (λx c H Q=>c=[]/\∃p kvs,x=.ref p/\H p=wz (.dK kvs)/\∀v,H v=wy->Q (.ref v) (eS H v (HN v p))):=by
 intro b s l H x c v j Q I f r h;refine ó h λy p kvs u d q=>?_;subst y u;cases f;cases r;refine Ø (C7 I.hok d) λz hd vs rel a=>?_;refine gh HJ a.typeIs PySem.F.entry_dict_values (PySem.F.args_dict_values_1 _) (meets_dict_values (iI X.prog X.w) p hd) ⟨⟨vs,a⟩,?_⟩;exact⟨.ref s.heap.objs.size,_,I.laid (o:=HN s.heap.objs.size p) (λ_ _ e=>aK _ e) (aP _) ⟨⟨_,bA _ gL,gL,gL⟩,⟨_,bA _ gL⟩,λg i ⟨o,e,r⟩ k=>⟨o,k _ e,r⟩⟩,gL,q _ (I.hok.fresh (aP _))⟩
def VF:OY X "dict.items" (λx c H Q=>c=[]/\∃p kvs,x=.ref p/\H p=wz (.dK kvs)/\∀v,H v=wy->Q (.ref v) (eS H v (HP v p))):=by
 intro b s l H x c v j Q I f r h;refine ó h λy p kvs u d q=>?_;subst y u;cases f;cases r;refine Ø (C7 I.hok d) λz hd vs rel a=>?_;refine gh J2 a.typeIs PySem.F.entry_dict_items (PySem.F.args_dict_items_1 _) (meets_dict_items (iI X.prog X.w) p hd) ⟨⟨vs,a⟩,?_⟩;exact⟨.ref s.heap.objs.size,_,I.laid (o:=HP s.heap.objs.size p) (λ_ _ e=>aK _ e) (aP _) ⟨⟨_,bA _ gL,gL,gL⟩,⟨_,bA _ gL⟩,λg i ⟨o,e,r⟩ k=>⟨o,k _ e,r⟩⟩,gL,q _ (I.hok.fresh (aP _))⟩
def SX:OY X "dict.pop" (λx b H Q=>∃p kvs k v,x=.ref p/\b=[kV k]/\H p=wz (.dK kvs)/\sT kvs k=wz v/\Q v (eS H p (.dK (nZ kvs k)))):=by
 intro a s n H x b v l Q I i r h;refine ð h λp kvs k y z w e d q=>?_;subst z w;cases i;refine Â (nI r) λu z g=>?_;subst z;exact Mz I e g d (.inl gL) λm j c f=>⟨y,_,c,f,q⟩
def V3:lV X (.builtin "len") (λb H Q=>∃p kvs,b=[.ref p]/\H p=wz (.dK kvs)/\Q (.int kvs.length) H):=by
 intro a s i H b g Q I r h;refine Í h λp kvs z d q=>?_;subst z;refine Â (nI r) λu z e=>?_;subst z;cases e;exact My I (.inl d) λt f c=>⟨.int kvs.length,H,c,⟨t,gL⟩,q⟩
def DL(t:X.calm=wx):lV X (.type "list") (λi H Q=>∃v p kvs,i=[.ref v]/\H v=wz (HN v p)/\H p=wz (.dK kvs)/\∀l,H l=wy->Q (.ref l) (eS H l (.lst (kvs.map (·.2))))):=by
 intro g s G H i F Q I r h;refine ý h λv p kvs Z A y q=>?_;subst Z;refine Â (nI r) λu Z B=>?_;subst Z;cases B;refine Ä (I.hok v _ A) λd _=>?_;refine Ø (C7 I.hok y) λz hd vs rel m=>?_;refine Ã m.dictAt λC k=>?_;have f:=rel.length;refine PySem.W.kdl_call (PySem.W.kdl_values) (I.ok.hd t) ⟨d,k⟩ eH λn E b c kp o a=>?_;have x:=PySem.W.kdl_vals_eq _ (by rw[eZ];exact a.1) λj v e=>a.2 j v (by rw[<- jW];exact e);exact⟨.ref s.heap.objs.size,_,I.laid kp (aP _) (show jF X.prog X.w _ n _ (.lst (kvs.map (·.2)))from⟨by rw[aC];exact z,b.toList,c,by rw[x];exact S5 rel,by simpa using o⟩),gL,q _ (I.hok.fresh (aP _))⟩
def CL(hc:X.calm=wx):lV X (.type "list") (λT H Q=>∃v p kvs,T=[.ref v]/\H v=wz (HP v p)/\H p=wz (.dK kvs) /\
  ∀(d:List à)(l:à)f,bF H f->H l=wy->d.length=kvs.length->(∀(j:Nat)(a:à)(e:lE×V),d[j]?=wz a->kvs[j]?=wz e->H a=wy/\f a=wz (.tup [kV e.1,e.2]))->f l=wz (.lst (d.map V.ref))->Q (.ref l) f):=by
 intro S s σ H T us Q I r h;refine ý h λv p kvs D hv hp q=>?_;subst D;refine Â (nI r) λu D rx=>?_;subst D;cases rx;refine Ä (I.hok v _ hv) λM _=>?_;refine Ø (C7 I.hok hp) λz hd vs rel dd=>?_;refine Ã dd.dictAt λep da=>?_;have vx:=rel.length;refine PySem.W.kdx_call (I.ok.hd hc) M da eH λh' tk J c d kk R K w t=>?_;have nd:=w.rise.imp λh=>cU h
 generalize L:s.heap.objs.size=l at *
 let G:List HO:=kvs.map λe=>HO.tup [kV e.1,e.2]
 let f:Hp:=λb=>if b=l then wz (.lst (d.map V.ref))else match(d.zip G).lookup b with | some o=>wz o | none=>H b
 have m:∀a,l<=a->H a=none:=λa ha=>I.hok.fresh (by rw[L];exact ha)
 have g:∀(j:Nat)(a:à)(e:lE×V),d[j]?=wz a->kvs[j]?=wz e->f a=wz (.tup [kV e.1,e.2]):=λj a e i C=>by
  show(if a=l then _ else _)=_;rw[a8 (iP (w.above a (aZ i))),NN nd i (by show(kvs.map _)[j]?=_;rw[aO,C];rfl)]
 have O:bF H f:=λb o e=>by
  have nb:¬l<=b:=λz=>by rw[m b z]at e;cases e
  show(if b=l then _ else _)=_;rw[a8 (show¬b=l fromλz=>nb (mI z.symm))]
  cases F:(d.zip G).lookup b with
  |none=>exact e
  |some y=>
   refine Â (FV F) λj i _=>?_;exact b9 (iQ (w.above b (aZ i))) nb
 have A:f l=wz (.lst (d.map V.ref)):=b7 gL;refine⟨.ref l,f,I.laidM kk O λa o e n=>?_,gL,q d l f O (m l (aP _)) eH (λj a e i C=>⟨m a (iQ (w.above a (aZ i))),g j a e i C⟩) A⟩;have hL:bN=2^24:=rfl;by_cases P:a=l
 ·subst P;rw[A]at e;cases e;refine⟨by rw[L];exact aP _,by rw[aC];lia,J.toList,c,?_,by simpa using R⟩;rw[t];clear t w nd G f m g O A q R K
  induction d with
  |nil=>exact .nil
  |cons x d ih=>exact .cons gL ih
 ·have B:(match(d.zip G).lookup a with | some o=>wz o | none=>H a)=wz o:=by
   have:=e;rw[<- this];exact(a8 P).symm
  cases F:(d.zip G).lookup a with
  |none=>rw[F]at B;rw[n]at B;cases B
  |some y=>
   rw[F]at B;cases B;refine Â (FV F) λj i C=>?_;refine Ð (w.pairs j a i) λN k x U Y Z=>?_;refine Â (Hz rel U) λy e1 e2=>?_;have E:=C;rw[aO,e1]at E;cases E;exact⟨by rw[L];exact iQ (w.above a (aZ i)),by show 2<=bN;lia,[N,x],.cons (S7 Y) (.cons e2 .nil),⟨_,Z,gL,_,gL,gL⟩⟩
end
end L2
namespace TL
open L2
section
variable{X:Cx}{C:à}{e i:æ}{A:List æ}{u E:ET}{pos s z c:Pos}
def Lk(C:à)(u:ET):EZ (mM C):=λb n a Q=>u a λd=>d=b/\Q n (.int n.kvs.length)
def Wg(f:BN X.K C)(j:fW X.K C "numbered")(G:fP X e u)(hb:autoParam (g8 e "numbered" X.env (è e X.env)=è e X.env) zzz._auto_1)
  (pc:∀{v},PE X (.Attribute e "numbered" c) v->PE X (.Call g [.Attribute e "numbered" c] [] pos) (WN (λO H Q=>∃(p:à)(kvs:List (lE×V)),O=[.ref p]/\H p=wz (.dK kvs)/\Q (.int kvs.length) H) (rN v DI))) :
  uE (F:=mM C) X (.Call g [.Attribute e "numbered" c] [] pos) (Lk C u):=by
 refine Â G λv p r=>?_;refine⟨_,pc (zJ f j p hb),λB J H L b P T n Q R o h k=>r B J H L b P _ _ o.ok h λd x m l N M=>?_⟩;refine Ä M λz q=>?_;subst z;refine Ä (mX o l N gL) λz a=>?_;subst z;refine Ć (id a) λI W Y kv t w S U y=>?_;refine⟨_,C,_,_,_,gL,t,f,j,gL,T.q,kv,gL,w,?_⟩;rw[<- y.length];exact k n _ _ m (.of l) a (.int _) q
def Ln(C:à)(u E:ET):EZ (mM C):=λb n a Q=>u a λd=>d=b/\E a λy=>∃j x,y=.int j/\qB n.kvs j=wz x/\Q { n with kvs:=C6 n.kvs j } x
def Wi(M:BN X.K C)(N:fW X.K C "numbered")(he:fP X e u)(hi:fP X i E)(hb:autoParam (g8 e "numbered" X.env (è e X.env)=è e X.env) zzz._auto_1)
  (pc:∀{v va},PE X (.Attribute e "numbered" c) v->PE X i va->PE X (.Call (.Attribute (.Attribute e "numbered" c) "pop" s) [i] [] z) (RQ X.K "dict" (λx xs H Q=>∃(p:à)(kvs:List (lE×V))(k:lE)(v:V),x=.ref p/\xs=[kV k]/\H p=wz (.dK kvs)/\sT kvs k=wz v/\Q v (eS H p (.dK (nZ kvs k)))) v (rN va DI))) :
  uE (F:=mM C) X (.Call (.Attribute (.Attribute e "numbered" c) "pop" s) [i] [] z) (Ln C u E):=by
 refine Â he λv p r=>?_;refine Â hi λvi pi ri=>?_;refine⟨_,pc (zJ M N p hb) pi,λB R H S b W T n Q QV o h k=>r B R H S b W _ _ o.ok h λd x Y f r1 q1=>?_⟩;refine Ä q1 λy q=>?_;subst y;refine Ä (mX o f r1 gL) λy l=>?_;subst y;refine Ĉ (id l) λ_ _ _ G m t _=>?_;refine⟨_,C,_,_,_,gL,m,M,N,gL,.inr (.inr (.inl ⟨gL,.inl ⟨G,t⟩⟩)),?_⟩;refine ri B R Y S b W _ _ (o.grow f).ok q λy yv H2 U r2 q2=>?_;refine Í q2 λj x y g q=>?_;subst y;cases r2;have P:=(o.grow f).grow U;refine Ć (id P.tp) λdi v1 v6 kv h1 Z h3 h4 L=>?_;have O:=o.mem' T.q (by show T.q∈[T.p,T.q];simp);rcases L.val j with⟨a,J⟩ | ⟨d,w,a,J,I⟩
 ·rw[g]at a;cases a
 ·rw[g]at a;cases a;refine⟨T.q,kv,.inl j,w,gL,gL,Z,J,?_⟩;exact k _ x w _ (((iE.of f).trans (.of U)).trans (BY (by show T.q∈[T.p,T.q];simp))) (Hf P.tp O (L.drop j)) (I.same (by rw[fS O];exact L2.bF.refl _)) q
def Up(C:à)(u:ET):EZ (mM C):=λb n a Q=>u a λd=>d=b/\Q n (.list (n.kvs.map (·.2)))
def Zr(I:BN X.K C)(L:fW X.K C "numbered")(O:fP X e u)(hb:autoParam (g8 e "numbered" X.env (è e X.env)=è e X.env) zzz._auto_1)
  (pc:∀{v:TE},PE X (.Attribute e "numbered" c) v->PE X (.Call g [.Call (.Attribute (.Attribute e "numbered" c) "values" s) [] [] z] [] pos) (WN (λw H Q=>∃(v p:à)(kvs:List (lE×V)),w=[.ref v]/\H v=wz (HN v p)/\H p=wz (.dK kvs)/\∀l,H l=wy->Q (.ref l) (eS H l (.lst (kvs.map (·.2)))))
   (rN (Bc X.K "dict" (λx w H Q=>w=[]/\∃(p:à)(kvs:List (lE×V)),x=.ref p/\H p=wz (.dK kvs)/\∀v,H v=wy->Q (.ref v) (eS H v (HN v p))) v) DI))) :
  uE (F:=mM C) X (.Call g [.Call (.Attribute (.Attribute e "numbered" c) "values" s) [] [] z] [] pos) (Up C u):=by
 refine Â O λv p r=>?_;refine⟨_,pc (zJ I L p hb),λB R H S y Y T n Q Z o h k=>r B R H S y Y _ _ o.ok h λd x G j W U=>?_⟩;refine Ä U λi q=>?_;subst i;refine Ä (mX o j W gL) λi b=>?_;subst i;refine Ć (id b) λP v1 v6 kv M f h3 h4 N=>?_;refine⟨_,C,_,_,_,gL,M,I,L,gL,.inr (.inr (.inl ⟨gL,.inl ⟨kv,f⟩⟩)),gL,T.q,kv,gL,f,λt a=>?_⟩;refine⟨t,T.q,kv,gL,bU,by rw[bZ (eU f a)];exact f,λl J=>?_⟩;have m:bF G (eS (eS G t (HN t T.q)) l (.lst (kv.map (·.2)))):=(dN a).trans (dN J);exact k n _ _ _ (.of (j.trans m)) (sZ.At.grow b m) (.list (pE.of (lN (jA (o.grow j).ok.live (bF.free' (dN a) J)) bU)) (N.vals.same (bR m))) q
def Xt(C:à)(u:ET):EZ (mM C):=λb n a Q=>u a λd=>d=b/\Q n (.list (n.kvs.map λe=>.tuple [.int e.1,e.2]))
theorem vD.at{K}:∀{a b}{j:Nat}{e:Int×D},vD K H a b->a[j]?=wz e->∃v,b[j]?=wz (.inl e.1,v)/\gW K H e.2 v:=by
 intro _ _ j e g h
 induction g generalizing j with
 |nil=>simp at h
 |cons r t n=>
  cases j with
  |zero=>simp at h;subst h;exact⟨_,gL,r⟩
  |succ j=>obtain⟨v,d,f⟩:=n (by simpa using h);exact⟨v,by simpa using d,f⟩
def aA6(U:BN X.K C)(Y:fW X.K C "numbered")(he:fP X e u)(hb:autoParam (g8 e "numbered" X.env (è e X.env)=è e X.env) zzz._auto_1)
  (pc:∀{v:TE},PE X (.Attribute e "numbered" c) v->PE X (.Call g [.Call (.Attribute (.Attribute e "numbered" c) "items" s) [] [] z] [] pos) (WN (λM H Q=>∃(v p:à)(kvs:List (lE×V)),M=[.ref v]/\H v=wz (HP v p)/\H p=wz (.dK kvs) /\
  ∀(t:List à)(l:à)f,bF H f->H l=wy->t.length=kvs.length->(∀(j:Nat)(a:à)(e:lE×V),t[j]?=wz a->kvs[j]?=wz e->H a=wy/\f a=wz (.tup [kV e.1,e.2]))->f l=wz (.lst (t.map V.ref))->Q (.ref l) f)
   (rN (Bc X.K "dict" (λx M H Q=>M=[]/\∃(p:à)(kvs:List (lE×V)),x=.ref p/\H p=wz (.dK kvs)/\∀v,H v=wy->Q (.ref v) (eS H v (HP v p))) v) DI))) :
  uE (F:=mM C) X (.Call g [.Call (.Attribute (.Attribute e "numbered" c) "items" s) [] [] z] [] pos) (Xt C u):=by
 refine Â he λv p r=>?_;refine⟨_,pc (zJ U Y p hb),λB p0 H Z N σ T n Q QV o h k=>r B p0 H Z N σ _ _ o.ok h λd x H1 I r1 q1=>?_⟩;refine Ä q1 λi q=>?_;subst i;refine Ä (mX o I r1 gL) λi m=>?_;subst i;refine Ć (id m) λdi v1 v6 kv h1 y h3 h4 S=>?_;refine⟨_,C,_,_,_,gL,h1,U,Y,gL,.inr (.inr (.inl ⟨gL,.inl ⟨kv,y⟩⟩)),gL,T.q,kv,gL,y,λL b=>?_⟩;refine⟨L,T.q,kv,gL,bU,by rw[bZ (eU y b)];exact y,λt l f sH hl qk G hL=>?_⟩;have J:=(dN b).trans sH;have R:∀a,eS H1 L (HP L T.q) a=wy->a∉Z:=λa ha=>jA ((o.grow I).ok.live) (bF.free' (dN b) ha);have W:=S.length;refine k n _ _ _ (.of (I.trans J)) (sZ.At.grow m J) (.list (pE.of (lN (R l hl) hL)) (CW (by rw[aC,aC];lia) λj d v O P=>?_)) q;rw[aO]at O P;refine Â (dB.mp O) λen k1 i=>?_;subst i;refine Â (dB.mp P) λa a1 i=>?_;subst i;refine Â (S.at k1) λw g1 g2=>?_;refine Ä (G j a _ a1 g1) λf1 f2=>?_;exact .tuple (tI.of (lN (R a f1) f2)) (.cons (.int _) (.cons (g2.same (bR J)) .nil))
def Do(C:à)(g:xX (mM C))(u:ET)(t:AZ (mM C)):EZ (mM C):=λa n b Q=>u b λd=>d=a/\t a n b λn1 f=>g a n1 (a::f) Q
noncomputable def yq:List Str:=["form","deep","least","numbered","following","standing"]
def LY(h:m∉yq):(LZ T v1 v6 n).lookup m=none:=pY h
def oU(L:m∉yq)(J:fP X e u)(I:UB X (i::A) t)
  (P:∀{v ta},PE X e v->PA X (i::A) ta->PE X (.Call (.Attribute e m s) (i::A) [] pos) (EU C m (jO X.K sp) [] E0 v ta)):uE X (.Call (.Attribute e m s) (i::A) [] pos) (Do C sp u t):=by
 refine Â J λv R re=>?_;refine Â I λva O ra=>?_;refine⟨_,P R O,λB l H g a r T n Q QV o h k=>re B l H g a r _ _ o.ok h λd x y b Y j=>?_⟩;obtain⟨rfl,j⟩:=j;refine Ä (mX o b Y gL) λz f=>?_;subst z;refine ć (id f) λ_ _ _ _ G _=>?_;refine⟨_,_,_,gL,G,LY L,ra B l y g a r T n _ _ (o.grow b) j λN F xs H2 p q Z U=>?_⟩;rw[cM];exact⟨g,T,N,lA T::F,Q,((o.grow b).growX p q).ok.live,o.mem',q,.cons (KS T) Z,U,λM d v w s' t' W S=>k M d v w (((iE.of b).trans p).trans s') t' W S⟩
def tU(r:m∉yq)(q:fP X e u)
  (y:∀{v},PE X e v->PE X (.Call (.Attribute e m s) [] [] pos) (EU C m (jO X.K sp) [] E0 v DI)):uE X (.Call (.Attribute e m s) [] [] pos) (Do C sp u Dp):=by
 refine Â q λv F L=>?_;refine⟨_,y F,λB w H j g O T n Q R o h k=>L B w H j g O _ _ o.ok h λd x P f J b=>?_⟩;obtain⟨rfl,b⟩:=b;refine Ä (mX o f J gL) λz a=>?_;subst z;refine ć (id a) λ_ _ _ _ p _=>?_;refine⟨_,_,_,gL,p,LY r,?_⟩;exact⟨j,T,n,[lA T],Q,(o.grow f).ok.live,o.mem',a,.cons (KS T) .nil,b,λt d v l M N I G=>k t d v l ((iE.of f).trans M) N I G⟩
def Uh{F:sZ}(u:EZ F):SZ F:=λd b n a=>u d n a λn1 _=>b.nx n1 a
def pS{u:EZ F}(h:uE X e u)(p:∀{v:TE},PE X e v->PS X (.Expr e pos) (HV v)):zX X (.Expr e pos) (Uh u):=by
 refine Â h λv m r=>?_;refine⟨_,p m,λB l H b a j T n w y o h f=>r B l H b a j T n _ _ o h λn1 d x k g t G q=>?_⟩;exact f.nx k b a j n1 (o.growX g t) (g.mask o.mem') q
end
section
variable{K:aH}{B l H:Hp}{g f:List à}{c:List Sl}{k:L2.St}
def Ok.less(o:Ok K B g H f c k)(hs:bF l B):Ok K l g H f c k where
 base:=hs.trans o.base
 sub:=o.sub
 live:=o.live
 len:=o.len
 val:=o.val
 own:=λi ts h=>by refine Ñ (o.own i ts h) λp xs h1 h2 h3 h4=>?_;exact ⟨p,xs,h1,h2,bF.free' hs h3,h4⟩
 dis:=o.dis
 dc:=o.dc.to (λ_ _ _ h=>⟨h,gL⟩) (λ_ _ a _ _=>⟨a,gL⟩) (λ_ _ _ _ a b=>⟨bF.free' hs a,b⟩) (L2.bF.refl _)
def Ok.pokeI(o:Ok K B g H f c k){p C dx:à}{fs}(hp:p∈f)(hB:B p=wy)(he:H p=wz (.ins C dx fs))(hn:∀(j:Nat)(hs:List Int)(kvs:List (D×D)),c[j]?≠wz (.dic hs kvs))(hu:autoParam (yw u=false) zzz._auto_1):Ok K B g (eS H p u) f c k where
 base:=λb w e=>by
  rw[bZ λz=>by lia];exact o.base b w e
 sub:=o.sub
 live:=λq hq=>by
  by_cases e:q=p
  ·subst e;rw[bU];exact⟨_,gL,hu⟩
  ·rw[bZ e];exact o.live q hq
 len:=o.len
 val:=λi d h=>by rw[fS hp];exact o.val i d h
 own:=λi ts h=>by
  rw[fS hp];refine í (o.own i ts h) λq xs h1 h2 h3 h4 h5 h6=>?_;exact⟨q,xs,h1,h2,h3,h4,by rw[bZ λz=>by lia];exact h5,h6⟩
 dis:=o.dis
 dc:=λi hs kvs h=>b9 h (hn i hs kvs)
def MZ(j:Nat)(a:List Int)(kvs:List (D×D)):(kT N ds)[j]?≠wz (.dic a kvs):=λh=>by
 have hm:=aZ h;rcases bM.mp hm with hm | hm
 ·grind
 grind
end
def Ms(K:aH)(a:TE):TS:=PB (KQ K (pD 0) (pD 1) "form") (PB (KQ K (pD 0) (pD 2) "deep") (PB (KQ K (pD 0) (pD 3) "least") (PB (KQ K (pD 0) PF "numbered") (PB (KQ K (pD 0) (tC (.int 0)) "following") (KQ K (pD 0) a "standing")))))
noncomputable def zr(x:à):D:=.dict [(.str "@",.list [.int (x:Nat)])]
def LE(C:à)(K:aH)(f:mO):Sp:=λvs H Q _=>∃x dx c dp ls b fm d,vs=[.ref x,c,.int dp,.int ls]/\x∈b/\H x=wz (.ins C dx [])/\(∀p∈b,BM (H p))/\gW K (ê H b) fm c/\f [fm,.int dp,.int ls] d /\
 ∀q st e a,bF (ê H [x]) a->q≠x->H q=wy->a q=wz (.dK [])->a x=wz (.ins C dx (LZ ⟨x,q,dx,fm,dp,ls⟩ c e ⟨[],0,st⟩))->gW K (ê a (q::b)) st e->d st->Q .non a
def Jd{K}{mg:â->Option á}{C:à}{x b:â}{st}{f:à}{N pn:List â}{k:Nat}{J:mO}(M:OZ K x b st f fd)(S:bS N pn (aV st))(O:pn.length=4)
  (m:BN K C) (n1:fW K C "form") (T:fW K C "deep") (n3:fW K C "least") (U:fW K C "numbered") (n5:fW K C "following") (W:fW K C "standing")
  (i:∀d A outer s H E,iF k (A.deeper (i7 b (aV st) s.heap.objs.size f d))->∀z fm dp ls Q,J [fm,.int dp,.int ls] Q ->
   ∃e t,fP (sV sC P w K mg base N b (aV st) f d A outer s H E).nox e t/\(∀{v},PE (sV sC P w K mg base N b (aV st) f d A outer s H E).nox e v->DP (sV sC P w K mg base N b (aV st) f d A outer s H E).nox (lO st) (Ms K v))/\t (kT N [z,fm,.int dp,.int ls]) Q):nG P w K mg base sC (k+1) f fd pn (LE C K J):=by
 refine M.ok S (λvs H Q E h=>?_) λd A outer s H vs Q E R h=>?_
 ·refine ĉ h λx dx c dp ls o fm y V _=>?_;subst V;exact O.symm
 ·refine Ċ h λx dx c dp ls o fm y V p B live r1 q k=>?_;subst V;obtain⟨e,t,⟨vv,pe,re⟩,pp,h⟩:=i d A outer s H E R (zr x) fm dp ls y q;refine⟨_,pp pe,?_⟩;have l:ê H [x] x=none:=by unfold ê;rw[b7 (aU.mpr gL)]
  have X:Ok K (ê H [x]) o H o (kT N [zr x,fm,.int dp,.int ls]) (L2.oQ N [.ref x,c,.int dp,.int ls]):=(rS live (.cons (.addr _) (.cons r1 (.cons (.int _) (.cons (.int _) .nil))))).less bX;have nd:=MZ (N:=N) (ds:=[zr x,fm,.int dp,.int ls]);have j:(L2.oQ N [.ref x,c,.int dp,.int ls])[0]?=wz (wz (.ref x)):=rfl;have Y:=(X.pokeI (u:=.ins C dx [("form",c)]) p l B nd).pokeI (u:=.ins C dx [("form",c),("deep",.int dp)]) p l bU nd;refine⟨c,gL,.ref x,j,x,C,dx,[],gL,B,m,n1,gJ,?_⟩;refine⟨.int dp,gL,.ref x,j,x,C,dx,_,gL,bU,m,T,gJ,?_⟩;refine⟨.int ls,gL,.ref x,j,x,C,dx,_,gL,bU,m,n3,gJ,?_⟩;intro q n;have a:q≠x:=λz=>by rw[z]at n;rw[bU]at n;cases n
  have Z:=(Y.pokeI (u:=.ins C dx [("form",c),("deep",.int dp),("least",.int ls)]) p l bU nd).adopt (u:=.dK []) n;have g:x∈q::o:=aE _ p;have F:eS (eS (eS (eS H x (.ins C dx [("form",c)])) x (.ins C dx [("form",c),("deep",.int dp)])) x (.ins C dx [("form",c),("deep",.int dp),("least",.int ls)])) q (.dK []) x=wz (.ins C dx [("form",c),("deep",.int dp),("least",.int ls)]):=by rw[bZ (i5 a)];exact bU
  have I:=(Z.pokeI (u:=.ins C dx [("form",c),("deep",.int dp),("least",.int ls),("numbered",.ref q)]) g l F nd).pokeI (u:=.ins C dx [("form",c),("deep",.int dp),("least",.int ls),("numbered",.ref q),("following",.int 0)]) g l bU nd;refine⟨.ref x,j,x,C,dx,_,gL,F,m,U,gJ,?_⟩;refine⟨.ref x,j,x,C,dx,_,gL,bU,m,n5,gJ,?_⟩;refine re _ o _ (q::o) _ _ _ _ I h λst L H6 r r6 q6=>?_;have G:=r _ _ (bU);refine⟨.ref x,j,x,C,dx,_,gL,G,m,W,gJ,?_⟩;refine k q st L _ ((I.grow r).pokeI (u:=.ins C dx (LZ ⟨x,q,dx,fm,dp,ls⟩ c L ⟨[],0,st⟩)) g l G nd).base a ?_ ?_ bU (r6.same (by rw[fS g];exact L2.bF.refl _)) q6
  ·rw[bZ a,bZ a,bZ a]at n;exact n
  ·rw[bZ a];exact r _ _ (by rw[bZ a,bZ a];exact bU)
section
variable{K:aH}{B H l:Hp}{m g f:List à}{k:List Sl}{n:L2.St}
def Ok.wide(o:Ok K B m H g k n)(s:bF H l)(x:∀a∈f,H a=wy)(F:∀a∈f,BM (l a)):Ok K B (f++m) l (f++g) k n:=by
 have w:bF (ê H g) (ê l (f++g)):=λb u e=>by
  unfold ê at e |-
  by_cases hb:b∈g
  ·rw[b7 hb]at e;cases e
  ·rw[a8 hb]at e;rw[a8 λz=>(bM.mp z).elim (λz=>by rw[x b z]at e;cases e) hb];exact s b u e
 refine⟨o.base.trans s,λp y=>(bM.mp y).elim (λz=>eG _ z) λz=>cG _ (o.sub p z),λp y=>?_,o.len,λi d h=>?_,λi G h=>?_,o.dis,?_⟩
 ·rcases bM.mp y with z | z
  ·exact F p z
  ·refine Â (o.live p z) λu q r=>?_;exact⟨u,s p u q,r⟩
 ·refine Â (o.val i d h) λv q r=>?_;exact⟨v,q,r.same w⟩
 ·refine í (o.own i G h) λp I q r A C t E=>?_;exact⟨p,I,q,cG _ r,A,λz=>(bM.mp z).elim (λz=>by grind) C,s _ _ t,E.same w⟩
 ·exact o.dc.to (λj L kvs h=>⟨h,gL⟩) (λp J a b _=>⟨cG _ a,(s p _ b).trans b.symm⟩) (λp J _ b c d=>⟨c,λz=>(bM.mp z).elim (λz=>by grind) d⟩) w
end
end TL
namespace L2
def GI(f:Array á->Array á)(o:Obj):(t7 f o).dict=o.dict:=by
 unfold t7;split<;>rfl
structure yO(h:ç)(e T:à)(dx:Option à)(cls a0 fl:á):Prop where
 ne:T≠e
 ex:∃o vs,h.get? e=wz o/\o.cls=cls/\o.dict=dx/\o.data=.fields vs/\vs[0]?=wz a0/\vs[1]?=wz (.ref T)
 tr:∃o ts,h.get? T=wz o/\o.data=.fields ts/\ts[3]?=wz fl
structure hZ(fr ch:List à)(h h':ç):Prop where
 keep:∀b o,h.get? b=wz o->b∉fr->b∉ch->h'.get? b=wz o
 slot:∀b o,h.get? b=wz o->b∈fr->b∉ch->∃sl,h'.get? b=wz { o with slots:=sl }
def hZ.of{h a:ç}(k:∀b o,h.get? b=wz o->b∉ch->a.get? b=wz o):hZ fr ch h a:=⟨λb o e _ c=>k b o e c,λb o e _ c=>⟨o.slots,k b o e c⟩⟩
def hZ.any{h a:ç}(x:hZ fr ch h a){b:à}(e:h.get? b=wz o)(c:b∉ch):∃d,a.get? b=wz { o with slots:=d }:=by
 by_cases f:b∈fr
 ·exact x.slot b o e f c
 ·exact⟨o.slots,x.keep b o e f c⟩
def hZ.trans(x:hZ fr ch h1 h2)(y:hZ fr ch h2 h3):hZ fr ch h1 h3:=by
 refine⟨λb o e f c=>y.keep b o (x.keep b o e f c) f c,λb o e f c=>?_⟩;refine Ã (x.slot b o e f c) λh d=>?_;refine Ã (y.slot b _ d f c) λa g=>?_;grind
def hZ.more{h}(x:hZ fr ch h h')(m:∀b∈ch,b∈ch'):hZ fr ch' h h':=⟨λb o e f c=>x.keep b o e f λz=>c (m b z),λb o e f c=>x.slot b o e f λz=>c (m b z)⟩
def hZ.frames{base h d:ç}(x:hZ fr ch h d)(g:h.FunFrames base l)(c:∀b∈tT l,b∉ch):d.FunFrames base l:=by
 induction l with
 |nil=>trivial
 |cons v r n=>
  obtain⟨f,⟨L,o,a,j,k,hd⟩,m⟩:=g
  have i:L∈tT (v::r):=by
   show L∈(v::r).filterMap (·.frame);rw[lG,a];exact aM ..
  refine Ã (x.any k (c L i)) λp e=>?_;refine⟨f,⟨L,_,a,j,e,hd⟩,n m λb hb=>c b ?_⟩;show b∈(v::r).filterMap (·.frame);rw[lG,a];exact aE _ hb
section
variable{P:cO}{w:f8}{A:e6}{E:á->ã->Prop}{s:ã}{base:ç}{v:Env}{outer:List Env}{L e:à}{Q:Unit->ã->Prop}
def GH{o:Obj}{vs:Array á}{nx:Bool}(C:A.frames=wz (v::outer))(I:s.heap.FunFrames base (v::outer))(F:v.frame=wz L)(H:s.heap.get? e=wz o)(hd:o.data=.fields vs)(J:1<vs.size)(p:e∉tT (v::outer))
  (k:∀i T,s.heap.objs.size<=T->T≠e->hZ (tT (v::outer)) [e] s.heap i->(∃j,i.get? e=wz j/\j.cls=o.cls/\j.dict=o.dict/\j.data=.fields (vs.setIfInBounds 1 (.ref T)))->(∃x y,i.get? T=wz x/\x.data=.fields y/\y[3]?=wz (t4 L))->Q () { s with heap:=i }) :
  å (ä P w) A (do let a <- frameOf v;let l <- entryPlaceOf L nx;let b <- EntryCells.newEntry ju a .none (t4 L) .none l;setField (.ref e) 1 b) Q E s:=by
 apply aG;refine wpAny_frameOf_fun C I F λd so=>?_;apply aG;refine wpAny_entryPlaceOf λl h=>?_;apply aG;refine iV ?_ (h.sizeOk5 _ _ _ _ _);have r:=(so.2.1 e p).trans H
 generalize g:({ cls:=.type "traceback",dict:=wy,data:=.fields ([ju,.ref L,.none,t4 L,.none]++(if l.isEmpty then yQ 6 j9 else l)).toArray }:Obj)=ob
 have t:(d.push ob).get? e=wz o:=aK _ r;refine y7 t hd J ?_;have ne:=iP (bC r);have q:=o1 hd (·.setIfInBounds 1 (d7 d.objs.size))
 have G:((d.push ob).update e (t7 (·.setIfInBounds 1 (d7 d.objs.size)))).get? d.objs.size=wz ob:=by
  rw[gH _ _ (i5 ne)];refine bA d ?_;rw[<- g];rfl
 refine k _ d.objs.size (by rw[so.1];exact aP _) ne ⟨λb u m f c=>?_,λb u m f c=>?_⟩ ⟨_,(qM (t7 (·.setIfInBounds 1 (d7 d.objs.size))) t (z7 q)),gp _ _,GI _ _,q⟩ ⟨ob,_,G,by rw[<- g],?_⟩
 ·have n:b≠e:=λz=>c (by rw[z];exact aM ..);rw[gH _ _ (i5 n)];exact aK _ ((so.2.1 b f).trans m)
 ·refine Ã (so.2.2 b u m) λK B=>?_;refine⟨K,?_⟩;rw[gH _ _ (i5 (λz=>c (by lia)))];exact aK _ B
 rfl
def P4{o:Obj}(i:A.frames=wz (v::outer))(l:s.heap.FunFrames base (v::outer))(d:v.frame=wz L)(f:s.heap.get? e=wz o)(hd:o.data=.fields vs)(c:vs[1]?=wz .none)(h:vs[0]?=wz a0)(b:e∉tT (v::outer))
  (k:∀a T,s.heap.objs.size<=T->hZ (tT (v::outer)) [e] s.heap a->yO a e T o.dict o.cls a0 (t4 L)->Q () { s with heap:=a }):å (ä P w) A (gb (.ref e) v) Q E s:=by
 unfold gb;simp only[d];apply aG;refine f6 f hd c ?_;rw[a8 cS];have g:=(mZ.mp c).1;refine GH i l d f hd g b λa T n1 p n m j=>k a T n1 n ⟨p,?_,j⟩;obtain⟨q,r,t,xd,u⟩:=m;exact⟨q,_,r,t,xd,u,by rw[DH cS];exact h,by simp[g]⟩
def IU{T:à}(F:A.frames=wz (v::outer))(H:s.heap.FunFrames base (v::outer))(q:v.frame=wz L)(x:yO s.heap e T dx cls a0 .none)(m:e∉tT (v::outer))(j:T∉tT (v::outer))
  (k:∀a h,s.heap.objs.size<=h->hZ (tT (v::outer)) [e,T] s.heap a->yO a e h dx cls a0 (t4 L)->Q () { s with heap:=a }):å (ä P w) A (gb (.ref e) v) Q E s:=by
 obtain⟨ne,⟨o,vs,t,G,l,hd,C,n⟩,⟨S,U,r,d,p⟩⟩:=x;unfold gb;simp only[q];apply aG;refine f6 t hd n ?_;rw[b7 (show(d7 T != j9)=wx from gL)];apply aG;refine f6 r d p ?_;rw[a8 (show¬((j9==t4 L)=wx) by simp[t4])];apply aG;refine y7 r d (mZ.mp p).1 ?_;have g:∀b,b≠T->(s.heap.update T (t7 (·.setIfInBounds 3 j9))).get? b=s.heap.get? b:=λb hb=>gH _ _ (i5 hb);have f:hZ (tT (v::outer)) [T] s.heap (s.heap.update T (t7 (·.setIfInBounds 3 j9))):=.of λb u B c=>(g b λz=>c (by rw[z];exact aM ..)).trans B;have y:=(mZ.mp n).1;refine GH F (f.frames H λb hb z=>j (by rw[<- aU.mp z];exact hb)) q ((g e (i5 ne)).trans t) hd y m λa h n1 K J I i=>?_;refine k a h (bK (mI (EL ..).symm) n1) ((f.more λb hb=>by simp at hb |-;exact .inr hb).trans (J.more λb hb=>by simp at hb |-;exact .inl hb)) ⟨K,?_,i⟩;obtain⟨M,N,O,xd,R⟩:=I;exact⟨M,_,N,O.trans G,xd.trans l,R,by rw[DH cS];exact C,by simp[y]⟩
def uY{T:à}{fl}(x:yO s.heap e T dx cls a0 fl)(k:∀c,(∀b o,s.heap.get? b=wz o->b≠T->c.get? b=wz o)->yO c e T dx cls a0 .none->Q () { s with heap:=c }):å (ä P w) A (setFlight (.ref e) wy) Q E s:=by
 obtain⟨ne,⟨o,vs,h,n,d,hd,l,f⟩,⟨p,q,g,a,m⟩⟩:=x;have i:=(mZ.mp m).1;apply aG;refine f6 h hd f ?_;rw[b7 (show(d7 T != j9)=wx from gL)];refine y7 g a i (k _ (λb u j hb=>(gH _ _ (i5 hb)).trans j) ⟨ne,⟨o,vs,(gH _ _ ne).trans h,n,d,hd,l,f⟩,_,_,qM _ g (z7 (o1 a _)),o1 a _,by simp[i]⟩)
def NO{o:Obj}(p:A.frames=wz (v::outer))(t:s.heap.FunFrames base (v::outer))(q:v.frame=wz L)(r:s.heap.get? e=wz o)(hd:o.data=.fields vs)(h:vs[1]?=wz .none)(m:vs[0]?=wz a0)(g:e∉tT (v::outer))
  (k:∀d T,s.heap.objs.size<=T->hZ (tT (v::outer)) [e] s.heap d->yO d e T o.dict o.cls a0 .none->Q () { s with heap:=d }):å (ä P w) A (leaving v (.ref e)) Q E s:=by
 apply aG;refine P4 p t q r hd h m g λh T n1 j x=>?_;refine uY x λn i B=>k n T n1 ⟨λb u a f c=>?_,λb u a f c=>?_⟩ B
 ·exact i b u (j.keep b u a f c) λz=>b9 (cA (bC a) n1) (by lia)
 ·obtain⟨y,l⟩:=j.slot b u a f c;exact⟨y,i b _ l λz=>b9 (cA (bC a) n1) (by lia)⟩
def QH{T:à}(o:A.frames=wz (v::outer))(q:s.heap.FunFrames base (v::outer))(p:v.frame=wz L)(x:yO s.heap e T dx cls a0 .none)(i:e∉tT (v::outer))(h:T∉tT (v::outer))
  (k:∀g d,s.heap.objs.size<=d->hZ (tT (v::outer)) [e,T] s.heap g->yO g e d dx cls a0 .none->Q () { s with heap:=g }):å (ä P w) A (leaving v (.ref e)) Q E s:=by
 apply aG;refine IU o q p x i h λy d n1 l x=>?_;refine uY x λn j t=>k n d n1 ⟨λb u a f c=>?_,λb u a f c=>?_⟩ t
 ·exact j b u (l.keep b u a f c) λz=>b9 (cA (bC a) n1) (by lia)
 ·obtain⟨r,m⟩:=l.slot b u a f c;exact⟨r,j b _ m λz=>b9 (cA (bC a) n1) (by lia)⟩
end
section
variable{P:cO}{w:f8}{H k:Hp}{h j i:ç}{a:à}{o:HO}{c d g:List à}
theorem jF.get(x:jF P w H h a o):∃u,h.get? a=wz u:=by
 cases o with
 |lst b=>refine Ç x λ_ _ _ _ e=>?_;exact⟨_,e⟩
 |tup b=>refine Ì x λ_ _ _ _ e _=>?_;exact⟨_,e⟩
 |dK kvs=>refine É x λ_ _ _ _ o _ _ e _=>?_;exact⟨_,e⟩
 |dT kvs=>refine É x λ_ _ _ _ o _ _ e _=>?_;exact⟨_,e⟩
 |set S n=>refine Ê x λo _ _ _ e _=>?_;exact⟨_,e⟩
 |ins C dx fs=>refine Á x λ_ _ _ e _=>?_;exact⟨_,e⟩
 |own y=>refine Ã x λ_ e=>?_;exact⟨_,e⟩
 |xd fs=>obtain⟨_,⟨_,_,_,e,_⟩,_⟩:=x;exact⟨_,e⟩
 |rng lo l=>refine Ë x λ_ _ _ e=>?_;exact⟨_,e⟩
 |frz ob u=>refine Ä x λe _=>?_;exact⟨_,e⟩
 |tbl m=>refine Â x λ_ e _=>?_;exact⟨_,e⟩
 |met f y=>exact⟨_,(show h.get? a=wz _ from x)⟩
 |ext p=>obtain⟨_,⟨_,e⟩,_⟩:=x;exact⟨_,e⟩
def rG.out(x:rG P w H h)(e:h.get? a=wy):H a=none:=by
 cases q:H a with
 |none=>rfl
 |some u=>obtain⟨_,z⟩:=(x a u q).get;lia
def rG.butX(x:rG P w H h)(n:hZ c g h i)(m:∀b∈c,H b=wy)(l:∀b∈g,H b=wy):rG P w H i:=λa o e=>by
 refine(x a o e).stay (λb u hb q=>?_) (λ_ q=>q) λ_ _ q=>q
 have f:H b≠none:=by
  rcases hb with rfl | hb
  ·rw[e];exactλz=>nomatch z
  ·rw[hb];exactλz=>nomatch z
 exact n.keep b u q (λz=>f (m b z)) λz=>f (l b z)
def Un.but(u:Un c [] H k j h)(kb:hZ d g h i)(nw:∀b o,j.get? b=wz o->b∉g/\(b∈d->b∈c)):Un c [] H k j i where
 keep:=λb o e n f x=>kb.keep b o (u.keep b o e n f x) (λz=>f ((nw b o e).2 z)) (nw b o e).1
 slot:=λb o e n f x=>by
  refine Ã (u.slot b o e n f x) λsl e1=>?_;refine Ã (kb.any e1 (nw b o e).1) λoy e2=>?_;grind
 free:=u.free
 there:=λb o e x=>by
  refine Ã (u.there b o e x) λo' e1=>?_;refine Ã (kb.any e1 (nw b o e).1) λoy e2=>?_;grind
 tups:=u.tups
 frzs:=u.frzs
 tbls:=u.tbls
end
def RD(P:cO)(w:f8):WC:=λouter H s E e d=>∃f T dx c g b,e=.ref f/\d.os=s.os/\v9 d.gens/\Un (tT outer) [] H b s.heap d.heap/\rG P w b d.heap /\
 yO d.heap f T dx c g .none/\b f=wy/\b T=wy/\s.heap.get? f=wy/\s.heap.get? T=wy/\(∀a,dx=wz a->s.heap.get? a=wy)/\E c dx b
section
variable{P:cO}{w:f8}{K:aH}{mg:â->Option á}{base:ç}{N:List â}{d:â}{c:Scope}{f:à}{cd:á}{A:e6}{outer:List Env}{s:ã}{H:Hp}{E:XK}
noncomputable abbrev WV(P:cO)(w:f8)(K:aH)(mg:â->Option á)(base:ç)(N:List â)(d:â)(c:Scope)(f:à)(cd:á)(A:e6)(outer:List Env)(s:ã)(H:Hp)(E:XK):Cx:=sV (RD P w) P w K mg base N d c f cd A outer s H E
def Hb{g:Hp}{j s2:ã}{h:à}(I:dL (WV P w K mg base N d c f cd A outer s H E) pins σ g j)(m:s.heap.get? h=wy)(r:E cls dx g)(v:g h=wy)
  (n:s2.os=j.os) (u:s2.gens=j.gens) (p:hZ (tT (i7 d c s.heap.objs.size f cd::outer)) ch j.heap s2.heap) (i:∀b∈ch,g b=wy/\s.heap.get? b=wy) {T:à} (x:yO s2.heap h T dx cls a0 .none) (t:g T=wy) (k:s.heap.get? T=wy) (l:∀a,dx=wz a->s.heap.get? a=wy) :
  RD P w outer H s E (.ref h) s2:=by
 refine⟨h,T,dx,cls,a0,g,gL,n.trans I.os,by rw[u];exact I.bare,Un.but I.base p λb o e=>⟨λz=>?_,λz=>?_⟩,I.hok.butX p (λb hb=>I.stkFree b hb) λb hb=>(i b hb).1,x,v,t,m,k,l,r⟩
 ·grind
 ·rcases aQ.mp (I.stkSub b z)with q | q
  ·rw[q]at e;exact b9 (bC e) (fF _)
  ·exact q
def AO:wO (RD P w) (WV P w K mg base N d c f cd A outer s H E) E:=by
 intro m M C n e L I t;obtain⟨j,T,dx,p,G,F,rfl,os,bare,un,hok,x,n1,v,n3,l,n5,r⟩:=t;have h:=I.call' os un hok bare λb z=>b9 z gC
 have g:∀b,n.heap.get? b=wy->b∉tT (i7 d c s.heap.objs.size f cd::outer):=λb hb z=>by
  refine È (I.stack.mem z) λ_ o k _=>?_;rw[hb]at k;cases k
 have old:∀b,n.heap.get? b=wy->s.heap.get? b=none:=λb hb=>by
  cases q:s.heap.get? b with
  |none=>rfl
  |some o=>refine Ã (I.base.there b o q (λz=>b9 z (by simp[sV]))) λy z=>?_;rw[hb]at z;cases z
 refine QH I.ok.frames h.stack gL x (g j n3) (g T l) λJ i sz u B=>?_;refine Hb h (old j n3) r n1 gL gL u (λb hb=>?_) B (hok.fresh sz) ?_ λa z=>old a (n5 a z)
 ·simp only[aQ,cP,i6]at hb;rcases hb with rfl | rfl
  ·exact⟨n1,old _ n3⟩
  ·exact⟨v,old _ l⟩
 ·cases q:s.heap.get? i with
  |none=>rfl
  |some o=>refine Ã (h.base.there i o q (λz=>b9 z (by simp[sV]))) λy z=>?_;rw[(qW sz)]at z;cases z
end
def Cm(K:aH)(C:à):Prop:=∃nm q N bs b n sub e c h i j k l m J f g a d,
 K.lookup C=wz (excClassObj nm q C N bs (.ref J::[.type "ValueError",.type "Exception",.type "BaseException",.type "object"]) b n sub e c h i j k l m "ValueError.__new__") /\
 wQ K N=wx/\mY K N "__init__"=wz wy/\K.lookup J=wz ⟨f,g,.cls a,d⟩/\wQ K a.ns=wx/\mY K a.ns "__init__"=wz wy
def SR{K:aH}{h:ç}{N:à}{m:â->Option á}(X:K.In h)(G:h.Ns N m)(e:mY K N n=wz wy):m n=none:=by
 refine ý G λo f d c hd _ b=>?_;unfold mY at e;split at e
 ·rename_i q;have z:=X _ _ q;rw[c]at z;cases z;cases hd;split at e
  ·cases e
  ·rename_i a;rw[<- b];unfold nsFind findBy;rw[<- WL,a]
   rfl
 ·cases e
def SU{h a:ç}{N:à}{m:â->Option á}(G:h.Ns N m)(k:∀b o,h.get? b=wz o->a.get? b=wz o):a.Ns N m:=by refine Ï G λo es ep ho r=>?_;exact ⟨o,es,ep,k _ _ ho,r⟩
def XU(C:à)(E:XK)(t:TA):TS:=λ_ b H=>t b H λvs a=>vs.length<=bN/\E (.ref C) wy a
section
variable{P:cO}{w:f8}{K:aH}{mg:â->Option á}{base:ç}{N:List â}{d:â}{c:Scope}{f:à}{cd:á}{A:e6}{outer:List Env}{s:ã}{H:Hp}{E:XK}
def FE{C:à}{k:Nat}{x:â}(R:Cm K C)(hr:iF k (A.deeper (i7 d c s.heap.objs.size f cd)))(hg:Gl (WV P w K mg base N d c f cd A outer s H E) x)(i:mg x=wz (.ref C))
  (Z:PA (WV P w K mg base N d c f cd A outer s H E) (e::es) t) (hd:autoParam ((x==("__debug__":â))=false) zzy._auto_1)
  (M:autoParam (bV (e::es) (i7 d c s.heap.objs.size f cd)=(ww,è e (i7 d c s.heap.objs.size f cd))::bV es (i7 d c s.heap.objs.size f cd)) zzz._auto_1)
  (v:autoParam ((j7 cpos (bV (e::es) (i7 d c s.heap.objs.size f cd))).any (·.1)=false) zzz._auto_1) :
  PS (WV P w K mg base N d c f cd A outer s H E) (.Raise (wz (.Call (.Name x np) (e::es) [] cpos)) wy pos) (XU C E t):=by
 intro m s1 σ U D I h;obtain⟨nm,q,W,bs,hdct,sn,sub,ab,col,dd,k0,k1,k2,k3,k5,J,c0,dJ,X,wh,lC,nC,iC,lJ,nJ,iJ⟩:=R;have B:=aCb.of_isNs (RH I.mod.kin nC);have G:=aCb.of_isNs (RH I.mod.kin nJ);refine wpAny_Raise_call_subT F.excBase_ValueError (C:=C) (nm:=nm) (q:=q) (N:=W) (bs:=bs) (bm:=.ref J::[.type "ValueError",.type "Exception",.type "BaseException",.type "object"]) (hdct:=hdct) (sn:=sn) (sub:=sub) (ab:=ab) (col:=col) (dd:=dd) (k0:=k0) (k1:=k1) (k2:=k2) (k3:=k3) (k5:=k5) (by rfl) hr.hd v (SR I.mod.kin B iC) (xG I hg i ⟨gL,?_⟩ hd);rw[show(WV P w K mg base N d c f cd A outer s H E).env=i7 d c s.heap.objs.size f cd from gL,M];refine er ?_;have S:=Z cpos m s1 σ U _ I h;rw[show(WV P w K mg base N d c f cd A outer s H E).env=i7 d c s.heap.objs.size f cd from gL,M]at S;refine eN S (λus s2 hz=>?_) λ_ _ z=>z;refine Ñ hz λvs H2 g r hl Y=>?_;refine⟨gL,by rw[<- r.length];exact hl,g.kIn _ _ lC,SU B g.bk,.own (g.kIn _ _ lJ) (SU G g.bk) (SR I.mod.kin G iJ) .base,λL y i=>?_⟩;have j:=g.hok.kept i.keeps;have n:=g.un (t':=s2.toks) (Un.kept i.keeps) j;refine Å i.there λt' u _ _=>?_;have O:=g.hok.out i.new
 have l:y∉tT (i7 d c s.heap.objs.size f cd::outer):=λz=>by
  refine È (g.stack.mem z) λ_ o Q _=>?_;rw[i.new]at Q;cases Q
 have old:∀b,s2.heap.get? b=wy->s.heap.get? b=none:=λb hb=>by
  cases q:s.heap.get? b with
  |none=>rfl
  |some o=>refine Ã (g.base.there b o q (λz=>b9 z (by simp[sV]))) λo' z=>?_;rw[hb]at z;cases z
 refine NO (base:=base) (outer:=outer) (s:={ s2 with heap:=L }) I.ok.frames n.stack gL u gL gL gL l λp T sz kb x'=>?_;refine Hb (s2:={ s2 with heap:=p }) n (old y i.new) Y O gL gL kb (λb hb=>?_) x' (j.fresh sz) ?_ (λa z=>nomatch z)
 ·simp only[aQ,cP,i6]at hb;subst hb;exact⟨O,old _ i.new⟩
 ·cases q:s.heap.get? T with
  |none=>rfl
  |some o=>refine Ã (n.base.there T o q (λz=>b9 z (by simp[sV]))) λo' z=>?_;rw[show({ s2 with heap:=L }:ã).heap.get? T=wy from qW sz]at z;cases z
end
def RS(X:Cx)(st:é)(rt:St->Hp->(Hp->XK)->Prop):Prop:=∀a s c H W,dL X a c H s->rt c H W ->
 å (ä X.prog X.w) X.A (exec st X.env) (λ_ _=>False) (λe f=>∃b d,dL X a c b d/\RD X.prog X.w X.stack b d (W b) e f) s
def RE(X:Cx)(e:æ)(rt:St->Hp->(Hp->XK)->Prop):Prop:=∀a s c H W,dL X a c H s->rt c H W ->
 å (ä X.prog X.w) X.A (è e X.env) (λ_ _=>False) (λe f=>∃b d,dL X a c b d/\RD X.prog X.w X.stack b d (W b) e f) s
def OM(X:Cx):Prop:=∀e s,¬X.xe e s
section
variable{X:Cx}{pos:Pos}{e:æ}
def YF{rt:St->Hp->(Hp->XK)->Prop}(h:RE X e rt)(c:autoParam (mH e (wz (.Name y pos')) pos.line X.env=pure false) zzz._auto_1):RS X (.Assign [.Name y pos'] e pos) rt:=by
 intro a s d H W I b;exact jy (jE (h a s d H W I b) λv f z=>z.elim) c
end
noncomputable abbrev Cx.marked(X:Cx)(a:à):Cx:={ X with A:=X.A.mark (wz (.ref a)),calm:=ww }
section
variable{X:Cx}{d:List (à×Obj)}{g:St}{H:Hp}{s:ã}{l:à}
def dL.mark(I:dL X d g H s)(l:à):dL (X.marked l) d g H s:=
 ⟨⟨I.ok.mod,I.ok.kind,I.ok.glob,I.ok.blt,I.ok.above,I.ok.inj,I.ok.has,I.ok.cab,(λz=>nomatch z),I.ok.frames,I.ok.stk,I.ok.exf,I.ok.bs,I.ok.bsz,I.ok.noex,I.ok.exfs,I.ok.funs,I.ok.frf,I.ok.tab⟩,I.os,I.bare,I.base,I.loc,I.cell,I.free,I.freeC,I.pin,I.hok,I.len⟩
def dL.unmark(I:dL X d g H s)(J:dL (X.marked l) d v4 H' s'):dL X d v4 H' s':=⟨I.ok,J.os,J.bare,J.base,J.loc,J.cell,J.free,J.freeC,J.pin,J.hok,J.len⟩
def Zy{E:á->ã->Prop}{i:Nat}{Q:Unit->ã->Prop}(I:dL X d g H s)(O:X.N.Nodup)(C:X.N[i]?=wz n)(f:X.env.scope.names.lookup n=wz .local)
  (h:∀J,dL X d (g.set i wy) H J->Q () J):å M A (do bindName X.env n .none;unbindBehindTheSuite X.env n pos) Q E s:=by
 refine Â (id I.loc) λm R P=>?_;have t:(X.env.scope.kind==.class||(X.env.scope.kind==.module&&X.env.locals != X.env.globals))=false:=by rw[I.ok.kind];rfl
 have u:i<g.length:=by rw[I.len];exact(aJ.mp C).1
 have cne:=I.cne;refine wpAny_nameGoes_keeps f R t λh' v x a=>?_;have low:∀b o,X.s₀.heap.get? b=wz o->b≠X.env.locals:=λb o e=>cU (cA (bC e) I.ok.above);refine h _ ⟨I.ok,I.os,I.bare,⟨λb o e n hb f=>?_,λb o e n hb f=>?_,I.base.free,λb o e f=>?_,I.base.tups,I.base.frzs,I.base.tbls⟩,⟨_,x,λj y v' r w L=>?_⟩,λy c e=>?_,I.free,I.freeC,λp S=>?_,λb ob e=>?_,by simpa using I.len⟩
 ·exact(a.2 b (low b o e)).trans (I.base.keep b o e n hb f)
 ·refine Ã (I.base.slot b o e n hb f) λsl r=>?_;exact⟨sl,(a.2 b (low b o e)).trans r⟩
 ·refine Ã (I.base.there b o e f) λU r=>?_;exact⟨U,(a.2 b (low b o e)).trans r⟩
 ·have F:j≠i:=λz=>by
   rw[z,bO u]at w;cases w
  rw[bG (i5 F)]at w;refine Â (P j y v' r w L) λu' r' q=>?_;have T:y≠n:=λz=>F (FM O (z▸r) C);refine⟨u',r',?_⟩;rcases q with⟨k,e⟩ | ⟨k,c,e,o,z,B⟩
  ·exact .inl ⟨k,by show(if y=n then v else m y)=_;rw[a8 T];exact e⟩
  ·exact .inr ⟨k,c,e,o,(a.2 c (cne y c e)).trans z,B⟩
 ·refine Î (I.cell y c e) λK o z B=>?_;exact⟨K,o,(a.2 c (cne y c e)).trans z,B⟩
 ·refine Á (I.pin p S) λW Y G Z p5=>?_;exact⟨(a.2 p.1 G).trans W,Y,G,Z,p5⟩
 ·refine(I.hok b ob e).stay (λc K hc q=>(a.2 c ?_).trans q) (λ_ q=>q) λ_ _ q=>q;rintro rfl;rcases hc with rfl | hc
  ·rw[I.free]at e;cases e
  ·rw[I.free]at hc;cases hc
def rG.track{H h}{a:à}(x:rG P w H h)(f:H a=wy)(new:jF P w (eS H a o) h a o):rG P w (eS H a o) h:=λb u e=>by
 by_cases hb:b=a
 ·subst hb;rw[bU]at e;lia
 ·rw[bZ hb]at e;exact(x b u e).stay (λc v _ q=>q) (λc q=>by rw[bZ (eU q f)];exact q) (λc i q=>by rw[bZ (eU q f)];exact q) λc ob v q=>by rw[bZ (eU q f)];exact q
def Un.track{H}{h h':ç}{a:à}(u:Un fr [] H H' h h')(hn:H' a=wy)(hf:h.get? a=wy):Un fr [] H (eS H' a o) h h' where
 keep:=u.keep
 slot:=u.slot
 free:=λb ob e n x=>by
  rw[bZ λz=>by lia];exact u.free b ob e n x
 there:=u.there
 tups:=λb xs e=>by have z:=u.tups b xs e;rw[bZ (eU z hn)];exact z
 frzs:=λb ob v e=>by have z:=u.frzs b ob v e;rw[bZ (eU z hn)];exact z
 tbls:=λb q e=>by
  obtain⟨more,z⟩:=u.tbls b q e;exact⟨more,by rw[bZ (eU z hn)];exact z⟩
def Zz(c:OM X)(hb:DP X body ts):PS X (.Try body (a::hs) [] [] pos) ts:=by
 intro d s g H D I h;refine wpAny_Try_except (eN (hb d s g H D I h) (λf b q=>?_) λe b z=>b9 z (c e b))
 cases f with
 |next=>exact v0 q
 |ret v=>exact q
 |brk=>exact q
 |cont=>exact q
end
end L2
namespace TL
open L2
section
variable{e:æ}
def Ok.away{K}{gc:List Sl}{σ:L2.St}(o:Ok K B p0 H ps gc σ)(i:Nat):Ok K B p0 H ps (gc.set i .un) (σ.set i wy) where
 base:=o.base
 sub:=o.sub
 live:=o.live
 len:=by simpa using o.len
 val:=λj d h=>by
  by_cases e:i=j
  ·subst e;have hi:i<gc.length:=by have:=(aJ.mp h).1;simpa using this
   rw[bO hi]at h;cases h
  ·rw[bG e]at h |-;exact o.val j d h
 own:=λj ts h=>by
  by_cases e:i=j
  ·subst e;have hi:i<gc.length:=by have:=(aJ.mp h).1;simpa using this
   rw[bO hi]at h;cases h
  ·rw[bG e]at h |-;exact o.own j ts h
 dis:=λj k ts us p h1 h2 h3 h4=>by
  have back:∀{l:Nat}{vs:List D},(gc.set i .un)[l]?=wz (.own vs)->i≠l/\gc[l]?=wz (.own vs):=λ{l vs} h=>by
   by_cases e:i=l
   ·subst e;have hi:i<gc.length:=by have:=(aJ.mp h).1;simpa using this
    rw[bO hi]at h;cases h
   ·rw[bG e]at h;exact⟨e,h⟩
  obtain⟨n1,b1⟩:=back h1;obtain⟨n2,b2⟩:=back h2;rw[bG n1]at h3;rw[bG n2]at h4;exact o.dis j k ts us p b1 b2 h3 h4
 dc:=o.dc.setS λ_ _ z=>nomatch z
end
end TL
namespace L2
def yM:d9 "ValueError"=wz (.type "ValueError"):=by rfl
section
variable{K:aH}{C D J:à}{cd:ClassData}
def Vx(c:nM K D=wz cd)(d:oY K (.ref D)=wz (.type "type"))(a:dS K C (.ref D)=wz ww)(b:dS K D (.ref D)=wz wx):eY K (.ref C) (.ref D)=wz false:=by
 have ne:¬(d7 C==d7 D)=true:=λz=>by
  have e:=Value.ref.inj (beq_iff_eq.mp z);subst e;rw[a]at b;cases b
 unfold eY;rw[a8 ne];unfold wT;dsimp only;rw[c,d];rw[b7 gC];exact a
def B5{b:Bool}(a:lW T=wx)(c:dS K C (.type T)=wz b):eY K (.ref C) (.type T)=wz b:=by
 unfold eY;rw[a8 (λz=>by lia)];unfold wT;dsimp only;rw[b7 a];exact c
def Zq(a:nM K J=wz cd)(c:oY K (.ref J)=wz (.type "type"))(hb:dS K J (.type "BaseException")=wz wx)(b:dS K C (.ref J)=wz wx):iL K (.ref C) (.ref J)=wz true:=by
 unfold iL;have e:aCj K (.ref J) (.type "BaseException")=wz true:=hb;rw[e,b7 gC];unfold wT;dsimp only;rw[a,c];rw[b7 gC];exact b
def SV{N:à}{a:Array fv}{n:Nat}(l:K.lookup N=wz ⟨c,d,.dict a n,sl⟩)(h:(a.toList.all λe=>match e.key with | .str _ _=>wx | _=>ww)=wx):wQ K N=true:=by
 unfold wQ;rw[l];rw[aCe]at h;exact h
def Vy:lW "int"=true:=by rfl
def Vz:lW "str"=true:=by rfl
def Zd:lW "list"=true:=by rfl
def aAm:lW "tuple"=true:=by rfl
def Zc:lW "bool"=true:=by rfl
def G9:lW "ValueError"=true:=by rfl
end
def zH{X:Cx}:OM X.nox:=λ_ _ h=>h
end L2
namespace TL
open L2
section
variable{X:Cx}{e:æ}{a:ET}{pos:Pos}
def CD(K:aH)(c:á)(f:V):List V->Hp->VK->Prop:=λg H Q=>∃p C dx b,g=[.ref p,f]/\H p=wz (.ext (sQ p C dx))/\(∀d,dx=wz d->∃fs,H d=wz (.xd fs))/\GQ K C/\eY K (.ref C) c=wz b/\Q (.bl b) H
def OD(g:∀u,fK cv u->u=c):lV X (.builtin "isinstance") (CD X.K c cv):=by
 intro f s t H o n Q I r h;refine þ h λp C dx b z j hd k i q=>?_;subst z;refine Í (RL r) λu w z l d=>?_;subst z;obtain rfl:=g _ d;cases l;exact F1 I j hd k i λm=>⟨.bl b,H,I.tok m,gL,q⟩
def yt(K:aH)(c:á)(a:ET):ET:=λf Q=>a f λd=>∃C y b,d=.dict [(.int (C:Nat),y)]/\eY K (.ref C) c=wz b/\Q (.bool b)
def Ie(s:fP X e a)(u:∀{v},PE X e v->PE X (.Call g1 [e,g2] [] pos) (WN (CD X.K c cv) (rN v (rN (tC cv) DI)))):fP X (.Call g1 [e,g2] [] pos) (yt X.K c a):=by
 refine Â s λv w F=>?_;refine⟨_,u w,λB t H A l G Q I o h k=>F B t H A l G _ _ o h λd x g j r E=>?_⟩;refine Ð E λC y b Z i q=>?_;subst Z
 generalize f:(oG [(.int (C:Nat),y)])=d at r
 cases r with
 |@exc p C' xk hp=>
  injection f with f;injection f with f;injection f with f m;injection f with f
  obtain rfl:=kL.inj f;exact⟨p,C,wy,b,gL,bX _ _ hp,(λ_ z=>nomatch z),xk.1,i,k _ _ g j (.bool _) q⟩
 |@excA p C' dx n xk hp hx=>
  injection f with f;injection f with f;injection f with f m;injection f with f
  obtain rfl:=kL.inj f;exact⟨p,C,wz dx,b,gL,bX _ _ hp,λ_ z=>by cases z;exact⟨_,bX _ _ hx⟩,xk.1,i,k _ _ g j (.bool _) q⟩
 |@excD p C' dx n cs2 xk hp hx _=>
  injection f with f;injection f with f;injection f with f m;injection f with f
  obtain rfl:=kL.inj f;exact⟨p,C,wz dx,b,gL,bX _ _ hp,λ_ z=>by cases z;exact⟨_,bX _ _ hx⟩,xk.1,i,k _ _ g j (.bool _) q⟩
 |_=>cases f
end
end TL
namespace L2
open TL
section
variable{X:Cx}
def Fu(K:aH):List V->Hp->VK->Prop:=λc H Q=>∃(p C:à)(dx:Option à)(tp:à)(a:List à)(b:Bool),c=[.ref p,.ref tp]/\H p=wz (.ext (sQ p C dx))/\(∀d,dx=wz d->∃fs,H d=wz (.xd fs))/\GQ K C/\H tp=wz (.tup (a.map V.ref))/\lD K (.ref C) (a.map d7)=wz b/\Q (.bl b) H
theorem HR:∀{a:List à}{us},fN (a.map V.ref) us->us=a.map d7:=by
 intro a
 induction a with
 |nil=>intro _ h;cases h;rfl
 |cons c a n=>
  intro _ h
  cases h with|cons r t=>
  have e:_=d7 c:=r;rw[aX,<- e,n t]
def JS:lV X (.builtin "isinstance") (Fu X.K):=by
 intro j s σ H Z Y Q I r h;refine Č h λp C dx tp N b V A hd F B x q=>?_;subst V;refine Í (RL r) λu w V L c=>?_;subst V;cases L;cases c;refine ă (I.hok tp _ B) λ_ G E o y m n a _=>?_;obtain rfl:=HR E;obtain⟨k,O,P,U⟩:=o;subst m a;refine PySem.W.kia_tup (NS F) I.kIn ?_ y x (λz=>nomatch z) λM=>⟨.bl b,H,I.tok M,gL,q⟩;obtain⟨⟨o,vs,e,f,g,l⟩,_⟩:=I.hok p _ A;have i:wR o=true:=by unfold wR;rw[l]
 cases dx with
 |none=>exact⟨o,wy,e,f,i,by rw[g];trivial⟩
 |some d=>
  refine Ã (hd d gL) λfs v=>?_;obtain⟨T,⟨J,S,R,t,_⟩,_⟩:=I.hok d _ v;exact⟨o,wz J,e,f,i,by rw[g];exact t⟩
end
end L2
namespace TL
open L2
section
variable{X:Cx}{e:æ}{f:List æ}{a:ET}{pos:Pos}
def XT:List à->TA
|[]=>DI
|c::cs=>rN (tC (.ref c)) (XT cs)
theorem R4:∀b d H Q,Q (b.map V.ref) H->XT b d H Q
|[],_,_,_,q=>q
|c::b,d,H,Q,q=>R4 b d H (λh g=>Q (V.ref c::h) g) q
def TU(K:aH)(c:List à)(a:ET):ET:=λg Q=>a g λd=>∃C y b,d=.dict [(.int (C:Nat),y)]/\c.length<=1000/\lD K (.ref C) (c.map d7)=wz b/\Q (.bool b)
def TM{u:Nat}(A:fP X e a)(G:∀{v},PE X e v->PE X (.Call g1 [e,.Tuple f u p2] [] pos) (WN (Fu X.K) (rN v (rN (Dt (XT cs)) DI)))):fP X (.Call g1 [e,.Tuple f u p2] [] pos) (TU X.K cs a):=by
 refine Â A λv I M=>?_;refine⟨_,G I,λB F H J r w Q N o h k=>M B F H J r w _ _ o h λd x i m t L=>?_⟩;refine ý L λC y b Z E j q=>?_;subst Z;refine R4 cs w i _ ⟨uU (by rw[aC];exact E),λtp l=>?_⟩
 generalize c:(oG [(.int (C:Nat),y)])=d at t
 have g:bF i (eS i tp (.tup (cs.map V.ref))):=dN l
 cases t with
 |@exc p C' xk hp=>
  injection c with c;injection c with c;injection c with c s;injection c with c
  obtain rfl:=kL.inj c;exact⟨p,C,wy,tp,cs,b,gL,g _ _ (bX _ _ hp),(λ_ z=>nomatch z),xk.1,bU,j,k _ _ _ (m.trans g) (.bool _) q⟩
 |@excA p C' dx n xk hp hx=>
  injection c with c;injection c with c;injection c with c s;injection c with c
  obtain rfl:=kL.inj c;exact⟨p,C,wz dx,tp,cs,b,gL,g _ _ (bX _ _ hp),λ_ z=>by cases z;exact⟨_,g _ _ (bX _ _ hx)⟩,xk.1,bU,j,k _ _ _ (m.trans g) (.bool _) q⟩
 |@excD p C' dx n cs2 xk hp hx _=>
  injection c with c;injection c with c;injection c with c s;injection c with c
  obtain rfl:=kL.inj c;exact⟨p,C,wz dx,tp,cs,b,gL,g _ _ (bX _ _ hp),λ_ z=>by cases z;exact⟨_,g _ _ (bX _ _ hx)⟩,xk.1,bU,j,k _ _ _ (m.trans g) (.bool _) q⟩
 |_=>cases c
end
end TL
namespace L2
section
variable{X:Cx}{k:Nat}{f C:à}{i:iW}{g:List â}{j:Sp}{m:â}{b pos:Pos}{o e:æ}{d:List æ}{t:TA}{n:TE}
def R5(p:OM X)(Z:PE X o n)(c:BN X.K C)(R:yB X.K C m f)(F:nG X.prog X.w X.K X.mg X.base (RD X.prog X.w) k f i g j)(hr:iF k X.A)(hb:rY X.K i g [])(Y:PA X (e::d) t)
  (N:autoParam (bV (e::d) X.env=(ww,è e X.env)::bV d X.env) zzz._auto_1) (M:autoParam ((j7 pos (bV d X.env)).any (·.1)=false) zzz._auto_1)
  (ht:autoParam (è (.Call (.Attribute o m b) (e::d) [] pos) X.env=(do
   let ov <- è o X.env
   cr b.atName
   let (f,first) <- ak [ov] (dh ov m pl)
   callWith pos f first (j7 pos (bV (e::d) X.env)) (gx pos (dy [] X.env)))) zzz._auto_1) :
  RE X (.Call (.Attribute o m b) (e::d) [] pos) (λG H W=>n G H λx J=>∃a dx fs,x=.ref a/\J a=wz (.ins C dx fs)/\fs.lookup m=wy/\t G J λvs y=>j (x::vs) y (λ_ _=>False) (W y)):=by
 intro v s G H W I h;refine vM (eN (Z v s G H _ I h) (λu s1 O=>?_) λe s z=>b9 z (p e s)) ht;refine î O λx J Q rx a dx fs ex U l q=>?_;subst ex;obtain rfl:=rx;refine zM Q U c R l ?_;refine sA I.ok.mod.kin R.kp (eN (Y pos v s1 G J _ Q q) (λE P O=>?_) λe s z=>b9 z (p e s)) N M;refine Í O λvs y L r S=>?_;refine⟨L.kIn,?_⟩;have T:fN (.ref a::vs) (.ref a::E):=.cons gL r;have hl:(d7 a::E).length=g.length:=by rw[<- T.length];exact F.len _ _ _ _ S
 have B:=hb P (.ref a::E) L.kIn (by rw[cM];exact hl);rw[cM]at B;refine fb (ah (F.run X.A X.stack P y ⟨.ref a::E,[]⟩ (.ref a::E) (.ref a::vs) _ (W y) hr L.env0 B T S) λr s' p=>?_)
 cases r with
 |error e=>exact⟨y,P,L,p⟩
 |ok fl=>
  cases fl with
  |ret u=>refine í p λ_ _ _ _ _ _ _ z=>?_;lia
  |next=>exact h9 p
  |brk=>exact h9 p
  |cont=>exact h9 p
end
end L2
namespace TL
open L2
def xi(K:aH)(d:D)(a:á)(dx:Option à):Prop:=∃C,d=.dict [(.int (C:Nat),.none)]/\a=.ref C/\dx=wy/\sN K C
section
variable{F:sZ}
def lT(K:aH)(i:xX F):Sp:=λvs H _ E=>∃c T n g f,(∀p∈c,BM (H p))/\(∀a∈F.ad T,a∈c)/\F.At T K H c n/\Reps K (ê H c) g vs/\i (F.tau T) n g f /\
 ∀h d b dx e,iE (F.ad T) H e->F.At T K e c h->xi K d b dx->f h d->E b dx e
def NZ{mg:â->Option á}{K st}{f:à}{N pn:List â}{k:Nat}{L:xX F}(O:OZ K x qual st f fd)(S:bS N pn (aV st))(len:∀τ n b Q,L τ n b Q->b.length=pn.length)
  (j:∀c A outer s H E,iF k (A.deeper (i7 qual (aV st) s.heap.objs.size f c))->∀g T n b z,L (F.tau T) n b z->(∀M d m dx C,iE (F.ad T) H C->F.At T K C g M->xi K d m dx->z M d->E m dx C) ->
   ∃t,BI (WV P w K mg base N qual (aV st) f c A outer s H E) (lO st) t/\t (F.tau T) { nx:=λ_ _=>False,rt:=λ_ _=>False,xB:=λB p0=>B=jT H (F.ad T)/\p0=g } n (kT N b)):nG P w K mg base (RD P w) (k+1) f fd pn (lT K L):=by
 refine ô O.ex λoc od kV U pm an c ct iz a lk I=>?_;subst a;refine Bl lk I S (λvs H Q E h=>?_) λA outer s H vs Q E Z h=>?_
 ·refine ø h λg T n b R _ _ _ r q _=>?_;rw[<- r.length];exact len _ _ b R q
 ·refine ø h λg T n b z live Y tp r q W=>?_;obtain⟨t,⟨ts,p,rd⟩,h⟩:=j c A outer s H E Z g T n b z q W;have o:=rS (N:=N) live r
  have J:∀(i:Nat)(y:List D),(kT N b)[i]?≠wz (.own y):=λi y e=>by
   refine í (o.own i y e) λq _ _ _ G _ v _=>?_;rw[G]at v;cases v
  have sW:bF (jT H (F.ad T)) H:=λa u e=>by
   unfold jT at e;split at e
   ·cases e
   ·exact e
  have o2:Ok K (jT H (F.ad T)) g H g (kT N b) (L2.oQ N vs):=⟨sW,o.sub,o.live,o.len,o.val,λi y e=>b9 e (J i y),o.dis,λi hs kvs e=>by
   obtain⟨⟨q,es,_,_,G,_,v,_⟩,_⟩:=o.dc i hs kvs e;rw[G]at v;cases v⟩
  exact⟨ts,p,rd _ g H g _ _ T n _ _ (⟨o2,Y,λa X=>b7 X,tp⟩) h ⟨λ_ _ _ _ _ _ _ l=>l.elim,λ_ _ _ _ _ _ _ l=>l.elim,λ_ _ _ _ _ _ _ l=>l.elim,λ_ _ _ _ _ _ _ l=>l.elim,gL,gL⟩⟩
def zF(s:bF (jT H0 as) H):iE as H0 H:=λa u ne e=>s a u (by unfold jT;lia)
def Xu(e:F.S->D->Prop)(f:Hp)(a:List à)(b:F.I)(C:à)(t:AT):SZ F:=λi d n h=>t h λg=>g.length<=1000/\i=F.tau b/\e n (.dict [(.int (C:Nat),.none)])/\∀B c,d.xB B c->B=jT f (F.ad b)/\c=a
section
variable{P:cO}{w:f8}{K:aH}{mg:â->Option á}{base:ç}{N:List â}{b:â}{a:Scope}{f:à}{cd:á}{A:e6}{outer:List Env}{s:ã}{H:Hp}{E:XK}{i:F.S->D->Prop}{g:F.I}{c:List à}
def EV{C:à}(y:∀m d k dx j,iE (F.ad g) H j->F.At g K j c m->xi K d k dx->i m d->E k dx j)(S:sN K C)(z:yA (WV P w K mg base N b a f cd A outer s H E) (e::es) t)
  (L:∀{ta},PA (WV P w K mg base N b a f cd A outer s H E) (e::es) ta->PS (WV P w K mg base N b a f cd A outer s H E) (.Raise (wz (.Call (.Name x np) (e::es) [] cpos)) wy pos) (XU C E ta)) :
  zX (WV P w K mg base N b a f cd A outer s H E) (.Raise (wz (.Call (.Name x np) (e::es) [] cpos)) wy pos) (Xu i H c g C t):=by
 refine Â z λZ J Q=>?_;refine⟨_,L J,λB r j M l U T n W X o h f=>Q B r j M l U _ _ o.ok h λY vs u R O q=>?_⟩;refine Ô q λG I hd v=>?_;cases F.inj I;refine Ä (v B r f.xb) λY V=>?_;subst Y V;have p:=o.grow R;exact⟨uU (by rw[<- O.length];exact G),y n _ _ _ u (zF p.ok.base) (F.to p.tp (λ_ _=>rfl) (gO o.ok.sub)) ⟨C,gL,gL,gL,S⟩ hd⟩
end
section
variable{X:Cx}{e:æ}{pos:Pos}{st:é}
def ON(X:Cx)(W:Hp->List à->Prop)(e:æ)(t:D->F.S->List Sl->Prop):Prop:=∃c,PE X e c/\∀B b H g a d T n f,pG F X.K B b H g a d T n->t (F.tau T) n a->W B b->c d H f
def tL{W:Hp->List à->Prop}{t:D->F.S->List Sl->Prop}(h:ON X W e t)(p:∀{v},PE X e v->PS X (.Expr e pos) (HV v)):zX X (.Expr e pos) (λj d n b=>t j n b/\∀B a,d.xB B a->W B a):=by
 refine Â h λv g r=>?_;exact⟨_,p g,λB a H i c b T n d k o h f=>r B a H i c b T n _ o h.1 (h.2 B a f.xb)⟩
def zX.or{t u:SZ F}(l:zX X st t)(m:zX X st u):zX X st (λk c n a=>t k c n a\/u k c n a):=by
 refine Â l λw p r=>?_;refine Â m λx q v=>?_;refine⟨λD a H=>w D a H\/x D a H,λb s a H D I h=>?_,λB i H j d a T n c g o h f=>?_⟩
 ·rcases h with h | h
  ·exact p b s a H D I h
  ·exact q b s a H D I h
 grind
def aCz{b:ExceptHandler}{c:List ExceptHandler}{t:SZ F}(h:BI X body t)(p:∀{a:TS},DP X body a->PS X (.Try body (b::c) [] [] pos) a):zX X (.Try body (b::c) [] [] pos) t:=by
 refine Â h λa d r=>?_;exact⟨a,p d,r⟩
def Ij(X:Cx)(st:é)(t:EZ F):Prop:=∃rt,RS X st rt/\∀B l H j c k T n h W,pG F X.K B l H j c k T n->t (F.tau T) n c h ->
 (∀i d b dx f g,iE (F.ad T) H f->iE (F.ad T) f g->(∀a∈F.ad T,BM (f a))->F.At T X.K g j i->xi X.K d b dx->h i d->W f b dx g)->rt k H W
def Wv{K}{a C:à}(c:sN K C)(b:a∉ps):gW K (ê (eS H a (.ext (sQ a C wy))) ps) (.dict [(.int (C:Nat),.none)]) (.ref a):=.exc c (lN b bU)
def pG.exc{B H H1 H2 p0 ps}{b:List Sl}{j:L2.St}{T n n'}{a C:à}{i:Nat}(o:pG F X.K B p0 H ps b j T n)(f:iE (F.ad T) H H1)(g:iE (F.ad T) H1 H2)(t:F.At T X.K H2 ps n')(k:sN X.K C)(c:H2 a=wy) :
  pG F X.K B p0 (eS H2 a (.ext (sQ a C wy))) ps (b.set i (.val (.dict [(.int (C:Nat),.none)]))) (j.set i (wz (.ref a))) T n'/\bF (ê H ps) (ê (eS H2 a (.ext (sQ a C wy))) ps):=by
 have d:=o.growX (f.trans g) t;have h:=dN (o:=HO.ext (sQ a C wy)) c;exact⟨(d.grow h).set (Wv k (jA d.ok.live c)),((f.trans g).mask o.mem').trans (bR h)⟩
theorem pG.away{K}{a:List Sl}{b:L2.St}(o:pG F K B p0 H ps a b T n)(i:Nat):pG F K B p0 H ps (a.set i .un) (b.set i wy) T n:=⟨o.ok.away i,o.mem,o.nb,o.tp⟩
def Xs{C a:à}(h:oG [(.int (C:Nat),.none)]=oG [(.int (a:Nat),.none)]):C=a:=by
 lia
end
end
section
variable{X:Cx}{C:à}{e i:æ}{b:List æ}{c:ET}{pos a:Pos}
def rV{t:AZ (mM C)}{w:HF->D->Prop}{E:XK}{g:Bk}(R:∀s d f dx j,iE [g.p,g.q] H0 j->L0 C g X.K j ps0 s->xi X.K d f dx->w s d->E f dx j)(W:m∉yq)(U:fP X e c)(S:UB X (i::b) t)
  (pc:∀{v ta},PE X e v->PA X (i::b) ta->PE X (.Call (.Attribute e m a) (i::b) [] pos) (EU C m (lT X.K sp) [] E v ta)) :
  ON (F:=mM C) X (λB u=>B=jT H0 [g.p,g.q]/\u=ps0) (.Call (.Attribute e m a) (i::b) [] pos) (λr n k=>c k λd=>d=r/\r=lA g/\t r n k λn1 N=>sp r n1 (r::N) w):=by
 refine Â U λv pe re=>?_;refine Â S λva pa ra=>?_;refine⟨_,pc pe pa,λB u H z l k T n QV o h Q=>re B u H z l k _ _ o.ok h λd x L G r1 A=>?_⟩;obtain⟨rfl,Y,A⟩:=A;refine Ä (mX o G r1 gL) λV y=>?_;subst V;obtain rfl:=gU Y;refine ć (id y) λ_ _ _ _ P _=>?_;refine⟨_,_,_,gL,P,LY W,ra B u L z l k T n _ _ (o.grow G) A λZ M xs H2 s2 J r2 q2=>?_⟩;refine Ä Q λV zz0=>?_;subst V zz0;rw[cM];have I:=(o.grow G).growX s2 J;exact⟨z,T,Z,lA T::M,w,I.ok.live,o.mem',J,.cons (KS T) r2,q2,λs d f dx j s' t' x' O=>R s d f dx j ((zF I.ok.base).trans s') ((mM C).to t' (λ_ _=>rfl) (gO o.ok.sub)) x' O⟩
end
section
variable{F:sZ}{t:zW}{u:SZ F}{a:D}{f:OO F}{n:F.S}{g:List Sl}{i:Nat}{j:EZ F}
def qX(h:qO t (λ_=>u a f n) { nx:=λ_=>True,rt:=λ_=>False,bk:=f.bk n,ct:=f.ct n } g):BO (zP t) u a f n g:=h
def wW(v:D)(h:∀q,q n v->j a n g q)(k:u a f n (g.set i (.val v))):BO (Dq i j) u a f n g:=h (λn1 d=>u a f n1 (g.set i (.val d))) k
def rJ{c:TZ F}{t e:SZ F}(b:Bool)(h:∀q,q n b->c a n g q)(k:b=wx->t a { f with nx:=u a f } n g)(d:b=ww->e a { f with nx:=u a f } n g):BO (kS c t e) u a f n g:=by
 refine h _ ?_
 lia
def W5{c:TZ F}{t e:SZ F}(R:F.S->Bool->Prop)(h:∀q,(∀m b,R m b->q m b)->c a n g q)(k:∀m,R m wx->t a { f with nx:=u a f } m g)(d:∀m,R m ww->e a { f with nx:=u a f } m g):BO (kS c t e) u a f n g:=by
 refine h _ λm b hb=>?_
 grind
def KB{c:TZ F}{t e:SZ F}(b:Bool)(h:∀q,q n b->c a n g q)(k:b=wx->t a f n g)(d:b=ww->e a f n g):kS c t e a f n g:=by
 refine h _ ?_
 lia
end
end TL
namespace L2
def iF.u1{k:Nat}{A:PySem.Around}(r:iF k A):A.units+1<PySem.cLine:=by have:=r.units;lia
end L2
namespace TL
open L2
section
variable{F:sZ}{X:Cx}{e:æ}
def XG{f:EZ F}(h:uE X e f)(pt:∀{t:TE},PE X e t->PT X e (tB t)):hV X e (Dr f):=by
 refine Â h λv p r=>?_;refine⟨_,pt p,λB i H j a s T n Q u o h k=>r B i H j a s T n _ _ o h λn1 d x g m q l b=>?_⟩
 cases l with
 |bool c=>exact⟨c,gL,k n1 c g m q b⟩
 |_=>exact b.elim
end
section
variable{X:Cx}{e:æ}{b:ET}{x:â}{pos a:Pos}
def ss(i:Nat)(c:X.N.Nodup)(h:fP X e b)(f:autoParam (X.N[i]?=wz x) zzz._auto_1)(j:autoParam (WU X.env.scope x) zzn._auto_1)(g:autoParam (mH e (wz (.Name x a)) pos.line X.env=pure false) zzz._auto_1)
  (d:autoParam (X.fn x=wx\/X.env.scope.names.lookup x=wz .local) zzn._auto_1):EI X (.Assign [.Name x a] e pos) (KP i b):=X1 h λh=>mD c f j h g d
def pn(i:Nat)(c:X.N.Nodup)(f:autoParam (X.N[i]?=wz x) zzz._auto_1)(g:autoParam (WU X.env.scope x) zzn._auto_1)(d:autoParam (X.fn x=wx\/X.env.scope.names.lookup x=wz .local) zzn._auto_1):PG X (.Name x pos) (nD i):=SF c f g d
def lU{N P:List â}{c:Scope}(d:autoParam (c.kind=.function) zzz._auto_1)(f:autoParam (c.isCoroutine=false) zzz._auto_1)(g:autoParam (c.isGenerator=false) zzz._auto_1)(h:autoParam (N.Nodup) zzr._auto_1)(i:autoParam (N.take P.length=P) zzz._auto_1)(j:autoParam (∀x∈P,c.names.lookup x=wz .local\/c.names.lookup x=wz .cell) zzr._auto_1)(k:autoParam (∀y∈c.names,y.2≠.free) zzr._auto_1):bS N P c:=⟨d,f,g,h,i,j,k⟩
end
end TL
namespace L2
noncomputable abbrev fO(x q:â)(st:é)(kV dc a:á)(an:Option à)(cd ct:á):iW:=oZ x q (BA st) (lO st) (aV st) .none kV dc a an cd ct
def Lb{c:Type}{P:List c->Prop}(h:∀a,P [a]):∀b,b.length=1->P b
|[a],_=>h a
def Lc{d:Type}{P:List d->Prop}(h:∀a b,P [a,b]):∀c,c.length=2->P c
|[a,b],_=>h a b
def Kc{e:Type}{P:List e->Prop}(h:∀a b c,P [a,b,c]):∀e,e.length=3->P e:=by rintro(_|⟨a,_|⟨b,_|⟨c,_|_⟩⟩⟩)e<;>first|exact h ..|simp at e
def Kd{f:Type}{P:List f->Prop}(h:∀a b c d,P [a,b,c,d]):∀e,e.length=4->P e:=by rintro(_|⟨a,_|⟨b,_|⟨c,_|⟨d,_|_⟩⟩⟩⟩)e<;>first|exact h ..|simp at e
abbrev tZ(x q:â)(st:é)(b:List â):Prop:=∀kV dc c an cd ct a,a.length=b.length->bindArgs (fO x q st kV dc c an cd ct) ⟨a,[]⟩=pure (b.zip a)
def qT(mg:â->Option á)(x:â):Addr:=ej λa:à=>mg x=wz (.ref a)
instance fdNe:Nonempty iW:=⟨fO "" "" (.Pass ⟨0,0,0,0⟩) .none .none .none wy .none .none⟩
def xV(K:aH)(a:à):iW:=ej λf:iW=>∃b c d,K.lookup a=wz ⟨b,c,.func f,d⟩
def Ex{mg:â->Option á}{a:à}(h:mg x=wz (.ref a)):qT mg x=a:=by
 have:=(ci (p:=λa:à=>mg x=wz (.ref a)) ⟨a,h⟩).symm.trans h;injection this with this
 injection this
def Bi{K:aH}{a:à}(h:K.lookup a=wz ⟨b,c,.func f,d⟩):xV K a=f:=by
 refine Ë (ci (p:=λf:iW=>∃b c d,K.lookup a=wz ⟨b,c,.func f,d⟩) ⟨f,_,_,_,h⟩) λ_ _ _ e=>?_;have:=e.symm.trans h;injection this with this
 injection this with _ _ this
 injection this
structure Dg(K:aH)(x q:â)(st:é)(a:à)(ps:List â):Prop where
 k:gR K (.ref a)=wx
 F:OZ K x q st a (xV K a)
 d:rY K (xV K a) ps []
structure Df(K:aH)(mg:â->Option á)(x:â)(st:é)(ps:List â):Prop extends Dg K x x st (qT mg x) ps where
 m:mg x=wz (.ref (qT mg x))
abbrev Fm(P:cO)(w:f8)(K:aH)(mg:â->Option á)(base:ç)(b:WC)(k:Nat)(a:à)(c:List â)(d:Sp):Prop:=nG P w K mg base b k a (xV K a) c d
abbrev Fo(P:cO)(w:f8)(K:aH)(mg:â->Option á)(base:ç)(a:WC)(k:Nat)(x:â)(b:List â)(c:Sp):Prop:=Fm P w K mg base a k (qT mg x) b c
section
variable{K:aH}{h:ç}{mg:â->Option á}{x q:â}{st:é}{i:List â}{f:à}{j:á}{n an:Option à}{o:Array (Option á)}{kV dc g cd ct:á}
def dg(b:tZ x q st i)(l:K.lookup f=wz ⟨j,n,.func (fO x q st kV dc g an cd ct),o⟩)(c:rZ K cd q=wx)(k:gR K (.ref f)=wx):Dg K x q st f i:=⟨k,by rw[Bi l];exact Ht l c k,by rw[Bi l];exact(Ht l c k).binds b⟩
def df(X:K.In h)(G:h.Ns iM mg)(b:tZ x x st i)(a:mY K iM x=wz (wz (.ref f)))(l:K.lookup f=wz ⟨j,n,.func (fO x x st kV dc g an cd ct),o⟩)(c:rZ K cd x=wx)(k:gR K (.ref f)=wx):Df K mg x st i:=by
 have m:=aCk X G a;have e:=Ex m;exact⟨by rw[e];exact dg b l c k,by lia⟩
def Wa(X:K.In h)(G:h.Ns iM mg){b:iW}(a:mY K iM x=wz (wz (.ref f)))(l:K.lookup f=wz ⟨j,n,.func b,o⟩)(y:GR K b.code):GR K (xV K (qT mg x)).code:=by rw[Ex (aCk X G a),Bi l];exact y
def GP(h:autoParam (∀kV dc g an cd ct k,bindArgs (fO x q st kV dc g an cd ct) ⟨[k],[]⟩=pure ([p0].zip [k])) zzp._auto_1):tZ x q st [p0]:=λa b c d e f=>Lb (h a b c d e f)
def xW(h:autoParam (∀kV dc g an cd ct k l,bindArgs (fO x q st kV dc g an cd ct) ⟨[k,l],[]⟩=pure ([p0,p1].zip [k,l])) zzp._auto_1):tZ x q st [p0,p1]:=λa b c d e f=>Lc (h a b c d e f)
def Q2(h:autoParam (∀kV dc g an cd ct k l a2,bindArgs (fO x q st kV dc g an cd ct) ⟨[k,l,a2],[]⟩=pure ([p0,p1,p2].zip [k,l,a2])) zzp._auto_1):tZ x q st [p0,p1,p2]:=λa b c d e f=>Kc (h a b c d e f)
def xh(h:autoParam (∀kV dc g an cd ct k l a2 m,bindArgs (fO x q st kV dc g an cd ct) ⟨[k,l,a2,m],[]⟩=pure ([p0,p1,p2,p3].zip [k,l,a2,m])) zzp._auto_1):tZ x q st [p0,p1,p2,p3]:=λa b c d e f=>Kd (h a b c d e f)
def na{C:à}{f}(h:eK K (.ref C) f=wz wy):fW K C f:=h
end
end L2
namespace TL
open L2
abbrev Fj(P:cO)(w:f8)(base:ç){K:aH}{mg:â->Option á}{x:â}{st:é}{a:List â}(_:Df K mg x st a)(k:Nat)(b:Sp):Prop:=Fo P w K mg base sC k x a b
abbrev Ft(P:cO)(w:f8)(base:ç){K:aH}{mg:â->Option á}{x:â}{st:é}{a:List â}(D:Df K mg x st a)(k:Nat)(b:mO):Prop:=Fj P w base D k (mS K b)
section
variable{X:Cx}{e:æ}{c:List æ}{o:ET}{x:â}{pos j p:Pos}
def cd{k n:Nat}{pn:List â}{g:mO}{t:AT}{st:é}{D:Df X.K X.mg x st pn}(F:Ft X.prog X.w X.base D k g)(f:iF n X.A)(i:yA X (e::c) t)(hk:autoParam (k<=n) zzy._auto_1)
  (q:autoParam (Gl X x) zzz._auto_1) (a:autoParam ((x==("__debug__":â))=false) zzy._auto_1) (l:autoParam (bV (e::c) X.env=(ww,è e X.env)::bV c X.env) zzz._auto_1) (b:autoParam ((j7 pos (bV c X.env)).any (·.1)=false) zzz._auto_1):fP X (.Call (.Name x p) (e::c) [] pos) (qG g t):=Ys F D.m D.k D.d (f.mono hk) i λh=>kE F (f.mono hk) q D.m D.k D.d .nil gZ h a l b
def cF{k n:Nat}{pn:List â}{i:WT}{t:AT}{st:é}{D:Df X.K X.mg x st pn}(F:Fj X.prog X.w X.base D k (nS X.K i))(g:iF n X.A)(l:yA X (e::c) t)(f:autoParam (k<=n) zzy._auto_1)
  (r:autoParam (Gl X x) zzz._auto_1) (a:autoParam ((x==("__debug__":â))=false) zzy._auto_1) (q:autoParam (bV (e::c) X.env=(ww,è e X.env)::bV c X.env) zzz._auto_1) (b:autoParam ((j7 pos (bV c X.env)).any (·.1)=false) zzz._auto_1):Q7 X (.Call (.Name x p) (e::c) [] pos) (Dz i t):=Zv F D.m D.k D.d (g.mono f) l λh=>kE F (g.mono f) r D.m D.k D.d .nil gZ h a q b
def cQ{k n:Nat}{pn:List â}{g:xx}{t:AT}{st:é}{D:Df X.K X.mg x st pn}(F:Fj X.prog X.w X.base D k (AW X.K g))(f:iF n X.A)(i:yA X (e::c) t)(hk:autoParam (k<=n) zzy._auto_1)
  (q:autoParam (Gl X x) zzz._auto_1) (a:autoParam ((x==("__debug__":â))=false) zzy._auto_1) (l:autoParam (bV (e::c) X.env=(ww,è e X.env)::bV c X.env) zzz._auto_1) (b:autoParam ((j7 pos (bV c X.env)).any (·.1)=false) zzz._auto_1):Bq X (.Call (.Name x p) (e::c) [] pos) (Fg g t):=Y1 F D.m D.k D.d (f.mono hk) i λh=>kE F (f.mono hk) q D.m D.k D.d .nil gZ h a l b
def sf{iter}(h:T9 X tg iter ti)(i:OX X tg g)(hb:xZ X body tb)(k:PassesOwn (ä X.prog X.w) X.A X.env X.xe:=by exact r8)(f:autoParam (X.calm=true) zzz._auto_1)(l:autoParam (∀x,j1 iter X.env x=pure x) zzx._auto_1):EI X (.For tg iter body [] pos) (YA ti g tb):=XP h i hb λa b d=>YZ k f a b d l
def el{iter o}(i:T9 X tg iter ti)(d:∀b,OX (blk X scope N' b) tg g/\HD (blk X scope N' b) ifs tt/\fP (blk X scope N' b) elt o)(h:autoParam (pZ scope X.env.scope X.N N' fr=true) zzo._auto_1)(f:autoParam (X.calm=true) zzz._auto_1)(k:autoParam (∀x,j1 iter X.env x=pure x) zzx._auto_1):fP X (.ListComp elt [⟨tg,iter,ifs,0⟩] scope pos) (WR fr ti g tt o):=Me i d λa b=>Y7 h f a b k
def fl{iter o}(i:T9 X tg iter ti)(d:∀b,OX (blk X scope N' b) tg g/\HD (blk X scope N' b) ifs tt/\fP (blk X scope N' b) elt o)(h:autoParam (pZ scope X.env.scope X.N N' fr=true) zzo._auto_1)(f:autoParam (X.calm=true) zzz._auto_1)(k:autoParam (∀x,j1 iter X.env x=pure x) zzx._auto_1):Q7 X (.ListComp elt [⟨tg,iter,ifs,0⟩] scope pos) (yo fr ti g tt o):=Mn i d λa b=>Y7 h f a b k
def cY{r:List V->Hp->VK->Prop}{f:List D->(D->Prop)->Prop}(k:tY X r f)(d:yA X (e::c) t)(g:lV X (.type T) r)(m:X.mg x=wy)(q:d9 x=wz (.type T))(l:autoParam (Gl X x) zzz._auto_1)(n:autoParam (x≠"__name__") zzy._auto_1)(a:autoParam ((x==("__debug__":â))=false) zzy._auto_1)(i:autoParam (bV (e::c) X.env=(ww,è e X.env)::bV c X.env) zzz._auto_1)(b:autoParam ((j7 pos (bV c X.env)).any (·.1)=false) zzz._auto_1):fP X (.Call (.Name x p) (e::c) [] pos) (qG f t):=Fe k d λh=>tP g l m q h n a i b
def cB{r:List V->Hp->VK->Prop}{f:List D->(D->Prop)->Prop}(k:tY X r f)(d:yA X (e::c) t)(g:lV X (.builtin T) r)(m:X.mg x=wy)(q:d9 x=wz (.builtin T))(l:autoParam (Gl X x) zzz._auto_1)(n:autoParam (x≠"__name__") zzy._auto_1)(a:autoParam ((x==("__debug__":â))=false) zzy._auto_1)(i:autoParam (bV (e::c) X.env=(ww,è e X.env)::bV c X.env) zzz._auto_1)(b:autoParam ((j7 pos (bV c X.env)).any (·.1)=false) zzz._auto_1):fP X (.Call (.Name x p) (e::c) [] pos) (qG f t):=Fe k d λh=>mR g l m q h n a i b
def so(i:Nat)(a:X.N.Nodup)(h:yA X c t)(d:autoParam (X.N[i]?=wz x) zzz._auto_1)(g:autoParam (WU X.env.scope x) zzn._auto_1)(f:autoParam (mH (.List c p2) (wz (.Name x j)) pos.line X.env=pure false) zzz._auto_1)(b:autoParam (X.fn x=wx\/X.env.scope.names.lookup x=wz .local) zzn._auto_1):EI X (.Assign [.Name x j] (.List c p2) pos) (Au i t):=Ya h λh=>mD a d g h f b
def sF(i:Nat)(a:X.N.Nodup)(h:Q7 X e t)(d:autoParam (X.N[i]?=wz x) zzz._auto_1)(g:autoParam (WU X.env.scope x) zzn._auto_1)(f:autoParam (mH e (wz (.Name x j)) pos.line X.env=pure false) zzz._auto_1)(b:autoParam (X.fn x=wx\/X.env.scope.names.lookup x=wz .local) zzn._auto_1):EI X (.Assign [.Name x j] e pos) (M2 i t):=aDh h λh=>mD a d g h f b
noncomputable def Iy(l:List â):Bool:=decide l.Nodup
def pk(i:Nat)(a:autoParam (Iy X.N=true) zzo._auto_1)(d:autoParam (X.N[i]?=wz x) zzz._auto_1)(f:autoParam (WU X.env.scope x) zzn._auto_1)(b:autoParam (X.fn x=wx\/X.env.scope.names.lookup x=wz .local) zzn._auto_1):PG X (.Name x pos) (nD i):=SF (c6 a) d f b
def tv(h:fP X e o)(b:autoParam (∀a,isTrue e X.env a=(do let v <- a;cr e.pos;ak [v] (truthy v))) zzx._auto_1):ML X e (GN o):=Xp h λh=>PP h b
end
end TL
namespace L2
section
variable{K:aH}{C J:à}{cd:ClassData}
def Yu(a:nM K J=wz cd)(c:oY K (.ref J)=wz (.type "type"))(hb:dS K J (.type "BaseException")=wz wx)(b:dS K C (.ref J)=wz ww):iL K (.ref C) (.ref J)=wz false:=by
 unfold iL;have e:aCj K (.ref J) (.type "BaseException")=wz true:=hb;rw[e,b7 gC];unfold wT;dsimp only;rw[a,c];rw[b7 gC];exact b
end
section
variable{X:Cx}
def Ca(f:â->â->Bool):V->List V->Hp->VK->Prop:=λx a H Q=>∃z y,x=.str z/\a=[.str y]/\Q (.bl (f z y)) H
def VD:OY X "str.startswith" (Ca Txt.startswith):=by
 intro a s g H x f v e Q I c r h;refine Í h λz y w p q=>?_;subst w p;refine Ã c λt w=>?_;subst w;refine Â (nI r) λu w b=>?_;subst w;refine Ã b λd w=>?_;subst w;exact SC.startswith ⟨.bl _,H,I,gL,q⟩
def Fx:List V->Hp->VK->Prop:=λa H Q=>∃i,a=[.int i]/\i.natAbs.log2<1920/\Q (.str (c9 (t6 i))) H
def kZ:lV X (.type "str") Fx:=by
 intro a s e H d c Q I r h;refine Å h λi z b q=>?_;subst z;refine Ù (nI r) λu z t y=>?_;subst z y;exact PySem.P.str_of_int b ⟨.str _,H,I.tok _,⟨_,gL⟩,q⟩
def Fq:List V->Hp->VK->Prop:=λa H Q=>∃z n,a=[.str z]/\intText? z=wz n/\z.length<=640/\Q (.int n) H
def xO:lV X (.type "int") Fq:=by
 intro a s f H e d Q I r h;refine Ñ h λz n y c b q=>?_;subst y;refine Ù (nI r) λu y t x=>?_;subst y x;exact PySem.W.KIN.call_text c b ⟨.int n,H,I.tok _,⟨_,gL⟩,q⟩
end
end L2
namespace TL
open L2
section
variable{X:Cx}{e:æ}{a:List æ}{b:ET}{pos:Pos}
def I3(f:â->â->Bool)(z:â)(c:List D)(Q:D->Prop):Prop:=match c with | [.str y]=>Q (.bool (f z y)) | _=>False
def Mg{f:â->â->Bool}{m:â}(w:fP X n b)(u:yA X (e::a) t)
  (C:∀{v ta},PE X n v->PA X (e::a) ta->PE X (.Call (.Attribute n m ap) (e::a) [] pos) (RQ X.K "str" (Ca f) v ta)):fP X (.Call (.Attribute n m ap) (e::a) [] pos) (JO (I3 f) b t):=by
 refine Â w λv E L=>?_;refine Â u λR A J=>?_;refine⟨_,C E A,λB j H l c r Q O o h k=>L B j H l c r _ _ o h λd x s q F i=>?_⟩;obtain⟨z,rfl,i⟩:=i;cases F;refine⟨gL,J B j s l c r _ _ (o.grow q) i λP S N M G g=>?_⟩
 cases G with
 |nil=>exact g.elim
 |cons p I=>
  cases I with
  |cons _ _=>cases p<;>exact g.elim
  |nil=>
   cases p with
   |str y=>exact⟨z,y,gL,gL,k _ _ _ (q.trans M) (.bool _) g⟩
   |_=>exact g.elim
def Mq(d:D)(Q:D->Prop):Prop:=match d with
|.int i=>i.natAbs.log2<1920/\Q (.str (c9 (t6 i)))
|_=>False
def sY:tY X Fx (f1 Mq):=c1 λH f d x Q c live r h k=>by
 cases r with
 |int i=>exact⟨i,gL,h.1,k _ _ H (L2.bF.refl H) (.str _) h.2⟩
 |_=>exact h.elim
def Mo(d:D)(Q:D->Prop):Prop:=match d with
|.str z=>∃n,intText? z=wz n/\z.length<=640/\Q (.int n)
|_=>False
def LX:tY X Fq (f1 Mo):=c1 λH i d x Q g live r h k=>by
 cases r with
 |str z=>
  refine Å h λn c f q=>?_;exact⟨z,n,gL,c,f,k _ _ H (L2.bF.refl H) (.int _) q⟩
 |_=>exact h.elim
end
section
variable{X:Cx}{F:sZ}{o e:æ}{c:List æ}{f:ET}{pos b:Pos}
def Hd(C:à)(m:â)(j:xX F)(f:ET)(t:AZ F):EZ F:=λg n a Q=>f a λd=>∃ns i,d=QO C ns i/\m∉ns/\t g n a λn1 h=>j g n1 (d::h) Q
def A6{C:à}{m:â}{s:xX F}{t:AZ F}(L:fP X o f)(J:UB X (e::c) t)
  (R:∀{v:TE}{w:TA},PE X o v->PA X (e::c) w->PE X (.Call (.Attribute o m b) (e::c) [] pos) (EU C m (jO X.K s) [] E0 v w)):uE X (.Call (.Attribute o m b) (e::c) [] pos) (Hd C m s f t):=by
 refine Â L λv S re=>?_;refine Â J λva P ra=>?_;refine⟨_,R S P,λB q H i g y T n Q QV o h k=>re B q H i g y _ _ o.ok h λd x A l r j=>?_⟩;refine Í j λns G V M j=>?_;subst V;refine ý (D4 r) λa dx fs V I D h2=>?_;subst V D;refine⟨a,dx,fs,gL,bX _ _ I,pY M,ra B q A i g y T n _ _ (o.grow l) j λO E xs H2 p u Z W=>?_⟩;rw[cM];exact⟨i,T,O,QO C (fs.map (·.1)) G::E,Q,((o.grow l).growX p u).ok.live,o.mem',u,.cons (r.same (p.mask o.mem')) Z,W,λN d v z s' t' Y U=>k N d v z (((iE.of l).trans p).trans s') t' Y U⟩
end
def Mt(a:à)(K:aH)(b:mO):TS:=PB (KQ K (pD 0) (pD 1) "form") (KQ K (pD 0) (XV a (LE a K b) [] E0 (rN (pD 1) (rN (pD 2) (rN (pD 3) DI)))) "book")
def LD(d f:à)(K:aH)(g:mO):Sp:=λvs H Q _=>∃x dx c dp ls b fm e,vs=[.ref x,c,.int dp,.int ls]/\x∈b/\H x=wz (.ins d dx [])/\(∀p∈b,BM (H p))/\gW K (ê H b) fm c/\g [fm,.int dp,.int ls] e /\
 ∀T st a,T.fm=fm->T.dp=dp->T.ls=ls->bF (ê H [x]) a->H T.p=wy->H T.q=wy->a x=wz (.ins d dx [("form",c),("book",.ref T.p)])->L0 f T K a (T.p::T.q::b) ⟨[],0,st⟩->e st->Q .non a
def Jc{K}{mg:â->Option á}{d F:à}{x j:â}{st}{f:à}{N pn:List â}{k:Nat}(Fn:OZ K x j st f fd)(S:bS N pn (aV st))(hl:pn.length=4)
  (hc:BN K d) (n1:fW K d "form") (n2:fW K d "book")
  (C:∀l A outer s H E,iF k (A.deeper (i7 j (aV st) s.heap.objs.size f l))->DP (sV sC P w K mg base N j (aV st) f l A outer s H E).nox (lO st) (Mt F K sp)):nG P w K mg base sC (k+1) f fd pn (LD d F K sp):=by
 refine Fn.ok S (λvs H Q E h=>?_) λl A outer s H vs Q E hr h=>?_
 ·refine ĉ h λx dx b dp ls i fm Z V _=>?_;subst V;grind
 ·refine Ċ h λx dx b dp ls i fm Z V X hi live r1 q k=>?_;subst V;refine⟨_,C l A outer s H E hr,?_⟩;have g0:(L2.oQ N [.ref x,b,.int dp,.int ls])[0]?=wz (wz (.ref x)):=rfl;have g1:(L2.oQ N [.ref x,b,.int dp,.int ls])[1]?=wz (wz b):=rfl;refine⟨b,g1,.ref x,g0,x,d,dx,[],gL,hi,hc,n1,gJ,?_⟩;refine⟨b,g1,.int dp,gL,.int ls,gL,λy c R m di=>?_⟩;have o:y≠x:=λz=>by rw[z,bU]at R;cases R
  have G:c≠x:=λz=>by rw[z,bU]at m;cases m
  have n:H y=none:=by rw[bZ o]at R;exact R
  have g:H c=none:=by rw[bZ G]at m;exact m
  have O:∀a,a≠y->a≠c->a≠x->eS (eS (eS H x (.ins d dx [("form",b)])) c (.own y)) y (.ins F c []) a=H a:=λa v a2 r=>by rw[bZ v,bZ a2,bZ r]
  have B:eS (eS (eS H x (.ins d dx [("form",b)])) c (.own y)) y (.ins F c []) x=wz (.ins d dx [("form",b)]):=by rw[bZ (i5 o),bZ (i5 G),bU]
  have lv:∀p∈y::i,BM (eS (eS (eS H x (.ins d dx [("form",b)])) c (.own y)) y (.ins F c []) p):=λp hp=>by
   by_cases z:p=y
   ·subst z;exact⟨_,bU,gL⟩
   ·by_cases z2:p=x
    ·subst z2;exact⟨_,B,gL⟩
    ·refine Â (live p ((aQ.mp hp).resolve_left z)) λu T e2=>?_;exact⟨u,(O p z (λz=>by rw[z,g]at T;cases T) z2).trans T,e2⟩
  have sm:bF (ê H i) (ê (eS (eS (eS H x (.ins d dx [("form",b)])) c (.own y)) y (.ins F c [])) (y::i)):=λa u e=>by
   unfold ê at e |-
   by_cases ha:a∈i
   ·rw[b7 ha]at e;cases e
   ·rw[a8 ha]at e;have v:a≠y:=λz=>by rw[z,n]at e;cases e
    have a2:a≠c:=λz=>by rw[z,g]at e;cases e
    have r:a≠x:=λz=>ha (z▸X);rw[a8 λz=>(aQ.mp z).elim v ha,O a v a2 r];exact e
  refine⟨y,c,b,dp,ls,y::i,fm,Z,gL,aM ..,bU,lv,r1.same sm,q,λt st v6 M sH L U W Y r6 q6=>⟨gL,?_⟩⟩;have J:t≠x:=λz=>by rw[z]at U;have:=B.symm.trans U;cases this
  refine⟨.ref x,g0,x,d,dx,_,gL,(sH x _ (by unfold ê;rw[a8 λz=>o (aU.mp z).symm];exact B)),hc,n2,gJ,?_⟩
  have I:H t=none:=by
   by_cases z:t=c
   ·lia
   ·exact(O t L z J).symm.trans U
  have sF:bF (ê H [x]) (eS M x (.ins d dx [("form",b),("book",.ref y)])):=λa u e=>by
   unfold ê at e;by_cases ha:a∈[x]
   ·rw[b7 ha]at e;cases e
   ·rw[a8 ha]at e;have r:=λz=>ha (aU.mpr z);have v:a≠y:=λz=>by rw[z,n]at e;cases e
    rw[bZ r];exact sH a u (by unfold ê;rw[a8 λz=>v (aU.mp z)];exact(O a v (λz=>by rw[z,g]at e;cases e) r).trans e)
  have sG:bF (ê H i) (ê (eS M x (.ins d dx [("form",b),("book",.ref y)])) (y::t::i)):=λa u e=>by
   unfold ê at e |-
   by_cases ha:a∈i
   ·rw[b7 ha]at e;cases e
   ·rw[a8 ha]at e;have r:a≠x:=λz=>ha (z▸X);rw[a8 λz=>(aQ.mp z).elim (λz=>by rw[z,n]at e;cases e) λz=>(aQ.mp z).elim (λz=>by rw[z,I]at e;cases e) ha];exact sF a u (by unfold ê;rw[a8 λz=>r (aU.mp z)];exact e)
  have sK:bF (ê M (t::y::i)) (ê (eS M x (.ins d dx [("form",b),("book",.ref y)])) (y::t::i)):=by
   rw[fS (aE _ (aE _ X))]
   exact gO λa ha=>by
    grind
  exact k ⟨y,t,c,fm,dp,ls⟩ st _ gL gL gL sF n I bU ⟨i5 L,b,v6,[],by rw[bZ o];exact Y,by rw[bZ J];exact W,r1.same sG,r6.same sK,.nil⟩ q6
section
variable{a:à}
noncomputable def MI(a:à)(T:Bk):D:=QO a ["form","book"] [T.fm,lA T]
end
section
variable{F:sZ}{X:Cx}{a b:æ}{jM:List æ}{pos:Pos}{e f:EZ F}
def Ud(e f:EZ F):EZ F:=λg n d Q=>e g n d λn1 x=>∃c:Bool,x=.bool c/\if c=wx then f g n1 d Q else Q n1 (.bool ww)
def Wh(h:uE X a e):uE X (.BoolOp op [a] pos) e:=by
 refine Â h λv p r=>?_;exact⟨_,Y6 p,r⟩
def We(t:uE X a e)(hb:uE X (.BoolOp .And (b::jM) pos) f):uE X (.BoolOp .And (a::b::jM) pos) (Ud e f):=by
 refine Â t λL w E=>?_;refine Â hb λM y G=>?_;refine⟨_,ZB w y,λB m H p g r T n Q K o h k=>E B m H p g r T n _ _ o h λn1 d x l j q C i=>?_⟩;obtain⟨c,rfl,i⟩:=i;cases C;refine⟨c,gL,?_⟩
 cases c with
 |true=>exact G B m l p g r T n1 Q _ (o.growX j q) i λu d v s I J A z=>k u d v s (j.trans I) J A z
 |false=>exact k _ _ _ l j q (.bool ww) i
end
section
variable{X:Cx}{a:æ}{pos:Pos}{c:ET}
def Nd(c:ET):ET:=λd Q=>c d λx=>match x with | .bool b=>Q (.bool (!b)) | _=>False
def Yt(i:fP X a c):fP X (.UnaryOp .Not a pos) (Nd c):=by
 refine Â i λt l p=>?_;refine⟨_,Wr l,λB j H m e r Q s o h k=>p B j H m e r _ _ o h λd x g q n f=>?_⟩
 cases n with
 |bool b=>exact⟨b,gL,k _ _ g q (.bool _) f⟩
 |_=>exact f.elim
end
end TL
namespace L2
section
variable{X:Cx}{a b:æ}{c:TE}{d:Operator}{pos:Pos}
def Fz{rt:St->Hp->(Hp->XK)->Prop}(l:OM X)(k:PE X a c)(hb:RE X b rt):RE X (.BinOp a d b pos) (λg H W=>c g H λ_ i=>rt g i W):=by
 intro f s g H W I h;refine wpAny_BinOp (eN (k f s g H _ I h) (λu o m=>?_) λe s z=>b9 z (l e s));refine Í m λx i j p n=>?_;exact eN (hb f o g i W j n) (λ_ _ z=>z.elim) λ_ _ z=>z
end
end L2
namespace TL
open L2
section
variable{F:sZ}{X:Cx}{e i o g:æ}{j:List æ}{l:ET}{pos c:Pos}{st:é}{C:à}{m:â}
def JM{Q:xX F}{t:AZ F}{w:F.S->D->Prop}{E:XK}{J:Hp}{r:F.I}{k:List à}(hE:∀s d b dx f,iE (F.ad r) J f->F.At r X.K f k s->xi X.K d b dx->w s d->E b dx f)(he:fP X o l)(ha:UB X (i::j) t)
  (pc:∀{v:TE}{U:TA},PE X o v->PA X (i::j) U->PE X (.Call (.Attribute o m c) (i::j) [] pos) (EU C m (lT X.K Q) [] E v U)) :
  ON X (λB u=>B=jT J (F.ad r)/\u=k) (.Call (.Attribute o m c) (i::j) [] pos) (λG n p=>l p λd=>G=F.tau r/\∃(ns:List â)(M:List D),d=QO C ns M/\m∉ns/\t G n p λn1 L=>Q G n1 (d::L) w):=by
 refine Â he λv pe re=>?_;refine Â ha λva pa ra=>?_;refine⟨_,pc pe pa,λB u H y q p T n QV o h hB=>re B u H y q p _ _ o.ok h λd x W A O z=>?_⟩;obtain⟨ht,ns,M,rfl,hm,z⟩:=z;obtain rfl:=F.inj ht;refine ý (D4 O) λa dx fs g Z e h2=>?_;subst g e;refine⟨a,dx,fs,gL,bX _ _ Z,pY hm,ra B u W y q p T n _ _ (o.grow A) z λn2 L xs H2 P R r2 q2=>?_⟩;refine Ä hB λg e=>?_;subst g e;rw[cM];have N:=(o.grow A).growX P R;exact⟨y,T,n2,_,w,N.ok.live,o.mem',R,.cons (O.same (P.mask (o.grow A).mem')) r2,q2,λs d b dx f s' t' x' Y=>hE s d b dx f ((zF N.ok.base).trans s') (F.to t' (λ_ _=>rfl) (gO o.ok.sub)) x' Y⟩
def IF{G:xX F}{t:AZ F}(Q:fP X o l)(P:UB X (i::j) t)
  (Z:∀{v:TE}{I:TA},PE X o v->PA X (i::j) I->RS X st (λb H W=>v b H λx z=>∃a dx fs,x=.ref a/\z a=wz (.ins C dx fs)/\fs.lookup m=wy/\I b z λvs p=>lT X.K G (x::vs) p (λ_ _=>False) (W p))) :
  Ij X st (Hd C m G l t):=by
 refine Â Q λv pe re=>?_;refine Â P λva Y ra=>?_;refine⟨_,Z pe Y,λB A H s f b T n J W o h k=>re B A H s f b _ _ o.ok h λd x p q E u=>?_⟩;refine Í u λns ds g R u=>?_;subst g;refine ý (D4 E) λa dx fs g O e h2=>?_;subst g e;refine⟨a,dx,fs,gL,bX _ _ O,pY R,ra B A p s f b T n _ _ (o.grow q) u λU as xs M w y r2 q2=>?_⟩;exact⟨s,T,U,_,J,((o.grow q).growX w y).ok.live,o.mem',y,.cons (E.same (w.mask (o.grow q).mem')) r2,q2,λS d r dx L s' t' x' N=>k S d r dx M L ((iE.of q).trans w) s' (F.liv y) t' x' N⟩
variable{W:Hp->List à->Prop}{t:D->F.S->List Sl->Prop}
def Vg{b:æ}{q:TE}(h:ON X W e t)(hb:PE X b q)(d:autoParam (EH b) zzv._auto_1):ON X W (.Subscript e b pos) t:=by
 refine Â h λv p r=>?_;exact⟨_,vH aY p hb d,λB f H k a s T n u o h w=>r B f H k a s T n _ o h w⟩
def Vf{r:List V->Hp->VK->Prop}(h:ON X W e t)(k:∀{b:TA},PA X [e] b->PE X (.Call g [e] [] pos) (WN r b))(d:autoParam (bV [e] X.env=(ww,è e X.env)::bV [] X.env) zzz._auto_1):ON X W (.Call g [e] [] pos) t:=by
 refine Â h λv p r=>?_;exact⟨_,k (eF p kX d),λB f H q a s T n u o h w=>r B f H q a s T n _ o h w⟩
def KE(h:ON X W e t):zX X (.Return (wz e) pos) (λs k n b=>t s n b/\∀B a,k.xB B a->W B a):=by
 refine Â h λv p r=>?_;exact⟨_,B0 p,λB a H q d b T n k u o h f=>r B a H q d b T n _ o h.1 (h.2 B a f.xb)⟩
end
structure Sub(F P:sZ) where
 π:P.I->F.I
 st:P.S->F.S
 put:P.S->F.S->P.S
 rel:D->D->Prop
 rl:∀{T:P.I}{τ:D},rel (P.tau T) τ->τ=F.tau (π T)
 ad:∀{T:P.I}{a:à},a∈F.ad (π T)->a∈P.ad T
 at_:∀{T:P.I}{K:aH}{H:Hp}{ps:List à}{n:P.S},P.At T K H ps n->F.At (π T) K H ps (st n)
 back:∀{T:P.I}{K:aH}{H H':Hp}{ps u9:List à}{n:P.S}{n':F.S},P.At T K H ps n->(∀a∈P.ad T,a∉F.ad (π T)->H' a=H a)->bF (ê H ps) (ê H' u9)->F.At (π T) K H' u9 n'->P.At T K H' u9 (put n n')
noncomputable def hH(F G:sZ):sZ where
 I:=F.I×G.I
 S:=F.S×G.S
 ad:=λT=>F.ad T.1++G.ad T.2
 tau:=λT=>.tuple [F.tau T.1,G.tau T.2]
 At:=λT K H ps n=>(∀a∈F.ad T.1,a∉G.ad T.2)/\F.At T.1 K H ps n.1/\G.At T.2 K H ps n.2
 to:=λh e s=>⟨h.1,F.to h.2.1 (λa ha=>e a (eG _ ha)) s,G.to h.2.2 (λa ha=>e a (cG _ ha)) s⟩
 liv:=λh a ha=>(bM.mp ha).elim (F.liv h.2.1 a) (G.liv h.2.2 a)
 inj:=λ{T T'} h=>by
  injection h with h
  injection h with h1 h
  injection h with h2 _
  exact Prod.ext (F.inj h1) (G.inj h2)
section
variable{F G:sZ}
def RP(h:gX [a,b]=.tuple [c,d]):a=c/\b=d:=by
 lia
noncomputable def uM:Sub F (hH F G) where
 π:=fe
 st:=fe
 put:=λn m=>(m,n.2)
 rel:=λτ nv=>∃x,τ=.tuple [nv,x]
 rl:=λ⟨_,h⟩=>(RP h).1.symm
 ad:=λh=>eG _ h
 at_:=λh=>h.2.1
 back:=λh e s t=>⟨h.1,t,G.to h.2.2 (λa ha=>e a (cG _ ha) λz=>h.1 a z ha) s⟩
noncomputable def MX:Sub G (hH F G) where
 π:=Prod.snd
 st:=Prod.snd
 put:=λn m=>(n.1,m)
 rel:=λτ nv=>∃x,τ=.tuple [x,nv]
 rl:=λ⟨_,h⟩=>(RP h).2.symm
 ad:=λh=>cG _ h
 at_:=λh=>h.2.2
 back:=λh e s t=>⟨h.1,F.to h.2.1 (λa ha=>e a (eG _ ha) (h.1 a ha)) s,t⟩
end
section
variable{F P:sZ}(S:Sub F P){K:aH}{B H k:Hp}{d f:List à}{c:List Sl}{g:L2.St}{T:P.I}{n:P.S}
noncomputable def Sub.rs(T:P.I):List Addr:=(P.ad T).filter λa=>decide (a∉F.ad (S.π T))
def Sub.mem_rs{a:à}:a∈S.rs T↔a∈P.ad T/\a∉F.ad (S.π T):=by
 unfold Sub.rs;rw[cW,c8]
def Ok.lay(ok:Ok K B d H f c g)(mem:∀a∈as,a∈d):Ok K (A1 B as H) d H f c g:=
 ⟨λa u e=>by
  by_cases z:a∈as
  ·rw[LI z]at e;exact e
  ·rw[qA z]at e;exact ok.base a u e,ok.sub,ok.live,ok.len,ok.val,λi t h=>by
  refine í (ok.own i t h) λq v m o p l r s=>?_;exact⟨q,v,m,o,by rw[qA λz=>l (mem q z)];exact p,l,r,s⟩,ok.dis,
  ok.dc.to (λj x kvs h=>⟨h,gL⟩) (λq w a b _=>⟨a,gL⟩) (λq w _ _ a b=>⟨by rw[qA λz=>b (mem q z)];exact a,b⟩) (L2.bF.refl _)⟩
def pG.sub(o:pG P K B d H f c g T n):pG F K (A1 B (S.rs T) H) d H f c g (S.π T) (S.st n):=
 ⟨o.ok.lay λa b=>o.mem a (S.mem_rs.mp b).1,λa b=>o.mem a (S.ad b),λa b=>by
  rw[qA λz=>(S.mem_rs.mp z).2 b];exact o.nb a (S.ad b),S.at_ o.tp⟩
def Sub.still(o:pG P K B d H f c g T n)(s:iE (F.ad (S.π T)) H k):∀a∈P.ad T,a∉F.ad (S.π T)->k a=H a:=λa e h=>by
 refine Â (P.liv o.tp a e) λu b _=>?_;rw[b];exact s a u h b
end
section
variable{F P:sZ}{X:Cx}{e:æ}{st:é}
def Io(S:Sub F P)(t:EZ F):EZ P:=λc n b Q=>∃a,S.rel c a/\t a (S.st n) b λn1 d=>Q (S.put n n1) d
def kY(S:Sub F P)(h:uE X e t):uE (F:=P) X e (Io S t):=by
 refine Â h λv p r=>?_;refine⟨v,p,λB l H m c y T n Q C o h k=>?_⟩;refine Â h λA j h=>?_;obtain rfl:=S.rl j;exact r _ l H m c y _ _ _ _ (o.sub S) h λn1 d x f b w s q=>k _ d x f (λa u i e=>b a u (λz=>i (S.ad z)) e) (S.back o.tp (S.still o b) (b.mask λa g=>o.mem' a (S.ad g)) w) s q
end
end TL
namespace L2
section
variable{prog:cO}{w:f8}{A:e6}{E:á->ã->Prop}{s:ã}{d:à}{kvs:List (lE×á)}
def HB{Q:List á->ã->Prop}(H:A.handled=wy)(G:(d==m6)=ww)(hd:s.heap.DictOf (iI prog w) d kvs)(I:kvs.length<=bN)
  (h:∀g m f,s.heap.objs.size<=g.objs.size->(∀b o,s.heap.get? b=wz o->g.get? b=wz o)->ItemsOf (λi v=>∃k x,kvs[i]?=wz (k,x)/\(iI prog w).is k v=wx) f kvs.length->Q f.toList { s with heap:=g,toks:=m }) :
  å (ä prog w) A (collect (.ref d)) Q E s:=by
 refine Ã hd.dictAt λK z=>?_;refine Ñ (id z) λo B q hex j jM=>?_;have u:=bC q;refine aG (wpAny_runValue (codeAny_builtin PySem.F.entry_proto_collect ?_));rw[ei PySem.F.plain_proto_collect _];refine aG (iV ?_);refine bB ⟨plainId_quiet J5 _,codeAny_builtin PySem.F.entry_list_iadd ?_⟩;rw[ei J5 _]
 generalize n:s.heap.push { cls:=.type "list",data:=.seq ([]:List á).toArray }=H1
 have C:H1.get? s.heap.objs.size=wz { cls:=.type "list",data:=.seq ([]:List á).toArray }:=by rw[<- n];exact bA _ gL
 have t:∀b o,s.heap.get? b=wz o->H1.get? b=wz o:=λb o e=>by rw[<- n];exact aK _ e
 refine PySem.W.kdl_extend (R:=λr y=>match r with
  |.ok (.ret v)=>å (ä prog w) A (match v with
   |.ref a=>do
    match(<- load a).data with
    |.seq xs _=>pure xs.toList
    |_=>unsupported "internal:collect"
   |_=>unsupported "internal:collect") Q E y
  |.ok _=>False
  |.error e=>E e y) (PySem.W.kdl_dict G) H (⟨o,B,t _ _ q,hex,j,jM⟩) s.heap.objs.size (iP u) (iP u) _ 0 C (λg m f c J p l=>?_) I
 refine aG (jg p ?_);refine bB (h g m f ?_ (λb o e=>J b o (cU (bC e)) (t b o e)) l);exact iQ (bC p)
theorem JE:∀{a:List Int}{kv:List (lE×á)}{vs:List á},kv.map (·.1)=a.map n9->vs.length=kv.length->(∀(j:Nat)(v:á),vs[j]?=wz v->∃k x,kv[j]?=wz (k,x)/\(iI prog w).is k v=wx)->IntsAre vs a:=by
 intro a
 induction a with
 |nil=>
  intro kv vs h hl _
  obtain rfl:kv=[]:=by simpa using h
  obtain rfl:vs=[]:=by simpa using hl
  exact .nil
 |cons i a n=>
  intro kv vs h hl hv
  rcases kv with _|⟨⟨k,x⟩,kv⟩
  ·simp at h
  rcases vs with _|⟨v,vs⟩
  ·simp at hl
  rw[aX,aX]at h;injection h with b c
  refine Î (hv 0 v gL) λl m e f=>?_;cases e;obtain rfl:=b;refine Ã (S7 f) λt z=>?_;subst z;exact .cons i t (n c (by simpa using hl) λj g e=>hv (j+1) g (by simpa using e))
def KI{Q:á->ã->Prop}{g:List Int}(G:A.handled=wy)(C:(d==m6)=ww)(hd:s.heap.DictOf (iI prog w) d kvs)(k:kvs.map (·.1)=g.map n9)(K:g.length<=60)
  (h:∀c p r out e,s.heap.objs.size<=r->(∀b o,s.heap.get? b=wz o->c.get? b=wz o)->c.get? r=wz (i4 "list" out e)->(∃q,IntsAre out.toList q/\q.Pairwise (·<·)/\q.Perm g)->Q (.ref r) { s with heap:=c,toks:=p }) :
  å (ä prog w) A (call (.builtin "sorted") [.ref d]) Q E s:=by
 have H:kvs.length=g.length:=by have:=d8 iT k;rwa [aC,aC]at this
 have l:g.Nodup:=by
  refine Ā (id hd) λ_ _ _ _ _ _ _ _ nd=>?_;rw[k]at nd;exact(pI.mp nd).imp λh e=>h (by rw[e])
 have J:bN=2^24:=rfl;refine Calls.call_function_entry kind_sorted plain_sorted entry_sorted (args_sorted1 _) ?_;refine aG (bB ?_);refine aG (HB (by simp[G]) C hd eH λc p a n t f=>?_);have m:a.toList.length=kvs.length:=by rw[eZ];exact f.1
 refine aG (ft ?_ eH);have i:(c.push (i4 "list" a.toList.toArray 0)).get? c.objs.size=wz (i4 "list" a.toList.toArray 0):=bA _ gL;refine aG (n6 (mG slot_list_sort ⟨_,i,gL⟩ entry_list_sort (list_sort_tree i (JE k m λj v e=>f.2 j v (by rw[<- jW];exact e)) eH λout I z a2 B=>⟨_,gL,?_⟩) (args_list_sort _)));obtain⟨e,F⟩:=sortedHeap_at i;refine bB ⟨_,gL,h _ p c.objs.size out e n (λb u x=>?_) F ⟨I,z,((List.pairwise_and_iff.mpr ⟨B,a2.nodup_iff.mpr l⟩).imp λh=>by have:=h.1;have:=h.2;lia),a2⟩⟩;have y:=bC (t b u x);rw[sortedHeap_old (cU y) (cA y (by rw[fL];exact pB _))];exact aK _ (t b u x)
end
section
variable{X:Cx}
def vB(k:X.calm=wx):lV X (.builtin "sorted") (λi H Q=>∃p kvs c,i=[.ref p]/\H p=wz (.dK kvs)/\kvs.map (·.1)=c.map n9/\c.length<=60/\∀(r:à)(a:List Int),H r=wy->a.Pairwise (·<·)->a.Perm c->Q (.ref r) (eS H r (.lst (a.map V.int)))):=by
 intro g s E H i a Q I r h;refine Ú h λp kvs c Z n m v q=>?_;subst Z;refine Â (nI r) λu Z x=>?_;subst Z;cases x;refine Ø (C7 I.hok n) λz hd vs rel j=>?_;refine KI (I.ok.hd k) hd j (by rw[<- m,rel.keys]) v λA C r out e f w l y=>?_;refine Å y λa o d b=>?_;refine⟨.ref r,_,I.laid w f ?_,gL,q _ a (I.hok.fresh f) d b⟩;have B:bN=2^24:=rfl;have t:=b.length_eq;exact⟨by rw[aC];lia,out.toList,e,SN o,by simpa[i4]using l⟩
end
end L2
namespace TL
open L2
noncomputable def xa(a:List (Int×D)):List (D×D):=a.map λe=>(.int e.1,e.2)
noncomputable def wp(a:List (Int×D)):D:=.dict ((.str "{}",.list [])::xa a)
section
variable{K:aH}{H:Hp}{c:List Sl}{p:à}{b:List (Int×D)}{a:List (lE×V)}{i:Nat}
theorem Ia:∀{b}{a:List (lE×V)},(xa b).map (·.1)=a.map (λe=>kD e.1)->Reps K H ((xa b).map (·.2)) (a.map (·.2))->vD K H b a
|[],[],_,_=>.nil
|[],_::_,h,_=>by cases h
|_::_,[],h,_=>by cases h
| (i,d)::b,(k,v)::a,h,r=>by
 have g:bW i::(xa b).map (·.1)=kD k::a.map (λe=>kD e.1):=h;injection g with f l
 cases r with
 |cons m n=>
  cases k with
  |inl j=>
   have e:i=j:=by injection f
   subst e;exact .cons m (Ia l n)
  |inr x=>cases f
theorem QK:∀{b}{a:List (lE×V)},vD K H b a->(xa b).map (·.1)=a.map (λe=>kD e.1)/\Reps K H ((xa b).map (·.2)) (a.map (·.2))
|_,_,.nil=>⟨gL,.nil⟩
|_,_,.cons r t=>by
 obtain⟨d,f⟩:=QK t;exact⟨d8 (bW _::·) d,.cons r f⟩
def R3{kvs:List (D×D)}(r:gW K H (.dict ((.str "{}",.list [])::kvs)) v):∃p a,v=.ref p/\H p=wz (.dK a)/\kvs.map (·.1)=a.map (λe=>kD e.1)/\Reps K H (kvs.map (·.2)) (a.map (·.2)):=by
 generalize g:(oG ((.str "{}",.list [])::kvs))=d at r
 cases r with
 |@dct p a kws h1 h2 h3=>
  grind
 |addr z=>
  lia
 |ins _ _=>
  lia
 |_=>cases g
def PL(r:gW K H (wp b) v):∃p a,v=.ref p/\H p=wz (.dK a)/\vD K H b a:=by
 refine Ñ (R3 r) λp a g d e f=>?_;exact⟨p,a,g,d,Ia e f⟩
def Xb(h:H p=wz (.dK a))(k:vD K H b a):gW K H (wp b) (.ref p):=.dct h (QK k).1 (QK k).2
def KN{i j:Nat}(g:∀d,s≠.own d)(h:(c.set i s)[j]?=wz (.own d)):i≠j/\c[j]?=wz (.own d):=by
 by_cases e:i=j
 ·subst e;have f:i<c.length:=by simpa using(aJ.mp h).1
  rw[bO f]at h;exact b9 (c7 h) (g d)
 ·rw[bG e]at h;exact⟨e,h⟩
end
section
variable{X:Cx}{a b e:æ}{f:List æ}{l c i:ET}{pos:Pos}
def Nb(c i:ET):ET:=λh Q=>c h λd=>i h λy=>∃g j x,d=wp g/\y=.int j/\qB g j=wz x/\Q x
def LO(N:X.A.units+1<v7)(J:fP X a c)(K:fP X b i)(M:autoParam (xu b) zzv._auto_1):fP X (.Subscript a b pos) (Nb c i):=by
 refine Â J λv O W=>?_;refine Â K λvi P Y=>?_;refine⟨_,xC N O P M,λB t H u n F Q Z o h k=>W B t H u n F _ _ o h λd x G C T R=>Y B t G u n F _ _ (o.grow C) R λy yv I E U S=>?_⟩;refine ý S λks j z y l g q=>?_;subst y l;cases U;refine Í (PL (T.same (bR E))) λp f y L kv=>?_;subst y;rcases kv.val j with⟨m,s⟩ | ⟨d,w,m,s,r⟩
 ·lia
 ·rw[g]at m;cases m;refine⟨p,w,gL,?_,k z w I (C.trans E) r q⟩;have:=zS.k (k:=.inl j) (bX _ _ L);rw[s]at this;exact this
def Nc(i c:ET)(h:List Sl)(Q:Bool->Prop):Prop:=i h λy=>c h λd=>∃g j,d=wp g/\y=.int j/\Q (qB g j).isNone
def aCv(J:X.A.units+1<v7)(F:fP X b i)(E:fP X a c)(G:autoParam (i0 .NotIn a=false) zzt._auto_1):ML X (.Compare b [.NotIn] [a] pos) (Nc i c):=by
 refine Â E λv K R=>?_;refine Â F λY L S=>?_;refine⟨_,YW (IK J L K) G,λB r H s g u Q U o h k=>S B r H s g u _ _ o h λy Z z t O M=>R B r z s g u _ _ (o.grow t) M λd x C T P N=>?_⟩;refine Í N λW j y l q=>?_;subst y l;cases O;refine Í (PL P) λp f y I kv=>?_;subst y;refine⟨p,sT f (.inl j),gL,zS.k (k:=.inl j) (bX _ _ I),_,gL,k _ C (t.trans T) ?_⟩;rcases kv.val j with⟨m,n⟩ | ⟨d,w,m,n,_⟩
 ·rw[m]at q;rw[n];exact q
 ·rw[m]at q;rw[n];exact q
theorem vD.keys{K}:∀{d:List (Int×D)}{f:List (lE×V)},vD K H d f->f.map (·.1)=(d.map (·.1)).map n9:=by
 intro _ _ h
 induction h with
 |nil=>rfl
 |cons _ t n=>grind
theorem R1{K}:∀d:List Int,Reps K H (d.map bW) (d.map V.int)
|[]=>.nil
|u::d=>.cons (.int u) (R1 d)
def Hq(c:ET):ET:=λj Q=>c j λd=>∃g,d=wp g/\g.length<=60/\∀h:List Int,h.Pairwise (·<·)->h.Perm (g.map (·.1))->Q (.list (h.map bW))
def A8(y:fP X e c)(C:autoParam (bV [e] X.env=(ww,è e X.env)::bV [] X.env) zzz._auto_1)
  (pc:∀{l},PA X [e] l->PE X (.Call g [e] [] pos) (WN (λM H Q=>∃p kvs m,M=[.ref p]/\H p=wz (.dK kvs)/\kvs.map (·.1)=m.map n9/\m.length<=60/\∀(r:à)(j:List Int),H r=wy->j.Pairwise (·<·)->j.Perm m->Q (.ref r) (eS H r (.lst (j.map V.int)))) l)):fP X (.Call g [e] [] pos) (Hq c):=by
 refine Â y λv G L=>?_;refine⟨_,pc (eF G kX C),λB F H I n N Q P o h k=>L B F H I n N _ _ o h λd x O t K J=>?_⟩;refine Å J λE i z q=>?_;subst i;refine Í (PL K) λp f i A kv=>?_;subst i;refine⟨p,f,E.map (·.1),gL,bX _ _ A,kv.keys,by rw[aC];exact z,λr j s u w=>k _ _ _ (t.trans (dN s)) ?_ (q j u w)⟩;exact AL (o.grow t).live s (R1 j)
end
mutual
def ndc:D->Bool
|.tuple ts=>ndcA ts
|.list ts=>ndcA ts
|.dict _=>ww
|_=>wx
def ndcA:List D->Bool
|[]=>wx
|t::ts=>ndc t&&ndcA ts
end
def Dw(H b:Hp):Prop:=∀a u,H a=wz u->(∀l,u≠.dK l)->b a=wz u
theorem gW.ndc{K}(e:Dw H H')(r:gW K H d v):TL.ndc d=wx->gW K H' d v:=by
 refine gW.rec (motive_2:=λc vs _=>ndcA c=wx->Reps K H' c vs) (λ_=>.none) (λb _=>.bool b) (λi _=>.int i) (λx _=>.str x) (λq _ a h=>.list ?_ (a h)) (λq _ a h=>.tuple ?_ (a h)) ?_ ?_ ?_ ?_ ?_ ?_ ?_ ?_ (λ_=>.nil) (λ_ _ a b h=>.cons (a (dH _ _▸h:_/\_).1) (b (dH _ _▸h:_/\_).2)) r
 case refine_1=>
  rcases q with(q | ⟨o,q⟩) | q
  ·exact .inl (.inl (e _ _ q λl z=>by cases z))
  ·exact .inl (.inr ⟨o,e _ _ q λl z=>by cases z⟩)
  ·exact .inr q
 case refine_2=>
  rcases q with(q | ⟨o,q⟩) | q
  ·exact .inl (.inl (e _ _ q λl z=>by cases z))
  ·exact .inl (.inr ⟨o,e _ _ q λl z=>by cases z⟩)
  ·exact .inr q
 all_goals intros;rename_i h;cases h
set_option genInjectivity true in
structure T8 where
 p:à
 q:à
 dp:Int
 fw:Int
structure SpS where
 kvs:List (Int×D)
 giv:Int
noncomputable def vL(T:T8):D:=.dict [(.str "@",.list [.int (T.p:Nat),.int (T.q:Nat),.int T.dp,.int T.fw])]
def KH(h:vL S=vL T):S=T:=by
 injection h with h
 injection h with h _
 injection h with _ h
 injection h with h
 injection h with e h
 injection h with f h
 injection h with g h
 injection h with i _
 injection e with e
 injection f with f
 injection g with g
 injection i with i
 obtain⟨a,b,c,d⟩:=S;obtain⟨j,k,l,m⟩:=T;simp only[T8.mk.injEq];exact⟨kL.inj e,kL.inj f,g,i⟩
def PK{K}{T:T8}(r:gW K H (vL T) v):v=.ref T.p:=M7 r
noncomputable def yf(T:T8)(g:Int):List (lE×V):=[(.inr "rows",.ref T.q),(.inr "given",.int g),(.inr "deep",.int T.dp),(.inr "few",.int T.fw)]
def X6(T:T8)(K:aH)(H:Hp)(a:List à)(n:SpS):Prop:=T.p≠T.q/\∃kv:List (lE×V),H T.p=wz (.dK (yf T n.giv))/\H T.q=wz (.dK kv)/\vD K (ê H a) n.kvs kv
noncomputable def IC:sZ where
 I:=T8
 S:=SpS
 ad:=λT=>[T.p,T.q]
 tau:=vL
 At:=X6
 to:=λ{T K H H' ps u9 n} h e s=>by
  obtain⟨di,kv,h1,h2,h4⟩:=h;exact⟨di,kv,by grind,by grind,h4.same s⟩
 liv:=λ{T K H ps n} h a ha=>by
  obtain⟨di,kv,h1,h2,_⟩:=h;rcases aQ.mp ha with rfl | ha
  ·exact⟨_,h1,gL⟩
  ·rw[aU.mp ha];exact⟨_,h2,gL⟩
 inj:=KH
noncomputable def zo(a:List (Int×D))(g dp fw:Int):List (â×D):=[("rows",wp a),("given",.int g),("deep",.int dp),("few",.int fw)]
noncomputable def WO(a:List (Int×D))(g dp fw:Int):D:=.dict ((.str "{}",.list [])::(zo a g dp fw).map λe=>(.str e.1,e.2))
section
variable{X:Cx}{a b e:æ}{c:ET}{pos:Pos}
def Vr{k}(h:kD k=aI x):k=.inr x:=by
 cases k with
 |inl i=>cases h
 |inr y=>injection h with h;rw[h]
theorem S6:∀{d:List (lE×V)}{xs:List â},xs.map aI=d.map (λe=>kD e.1)->d=(xs.zip (d.map (·.2))).map λe=>(.inr e.1,e.2)
|[],[],_=>rfl
|[],_::_,h=>by cases h
|_::_,[],h=>by cases h
| (k,v)::d,x::xs,h=>by
 have f:aI x::xs.map aI=kD k::d.map (λe=>kD e.1):=h;injection f with g i
 rw[Vr g.symm];exact d8 (((.inr x:lE),v)::·) (S6 i)
def aDx{K}{H:Hp}{g dp fw:Int}(r:gW K H (WO ks g dp fw) v):∃(p:à)(h:V),v=.ref p/\H p=wz (.dK [(.inr "rows",h),(.inr "given",.int g),(.inr "deep",.int dp),(.inr "few",.int fw)])/\gW K H (wp ks) h:=by
 refine Ñ (R3 r) λp i k f j d=>?_;rw[(S6 (xs:=["rows","given","deep","few"]) j)]at f
 generalize i.map (·.2)=us at f d
 cases d with
 |cons l d=>cases d with
  |cons m d=>cases d with
   |cons n d=>cases d with
    |cons o d=>
     cases m;cases n;cases o;cases d;exact⟨p,_,k,f,l⟩
def Fd(c:ET)(x:â):ET:=λh Q=>c h λd=>∃(f:List (Int×D))(g dp fw:Int)(y:D),d=WO f g dp fw/\(zo f g dp fw).lookup x=wz y/\Q y
def kN(I:X.A.units+1<v7)(C:fP X a c)(E:PE X b (tC (.str x)))(G:autoParam (xu b) zzv._auto_1):fP X (.Subscript a b pos) (Fd c x):=by
 refine Â C λv L O=>?_;refine⟨_,xC I L E G,λB J H t l T Q u o h k=>O B J H t l T _ _ o h λd W i R N M=>?_⟩;refine č M λU g dp fw y e f q=>?_;subst e;refine Í (aDx N) λp S e F P=>?_;subst e
 have get:∀{w:V},sT [((cu "rows":lE),S),(.inr "given",.int g),(.inr "deep",.int dp),(.inr "few",.int fw)] (.inr x)=wz w->gW X.K (ê i t) y w->∃a v,V.ref p=.ref a/\zS i a (.str x) (wz v)/\u v i:=λ{w} hw j=>⟨p,w,gL,by
  have:=zS.k (k:=.inr x) (bX _ _ F);rw[hw]at this;exact this,k y w i R j q⟩
 by_cases m:x="rows"
 ·subst m;cases f;exact get gL P
 by_cases n:x="given"
 ·subst n;cases f;exact get gL (.int _)
 by_cases r:x="deep"
 ·subst r;cases f;exact get gL (.int _)
 by_cases s:x="few"
 ·subst s;cases f;exact get gL (.int _)
 refine b9 f ?_;unfold zo;rw[cT,beq_eq_false_iff_ne.mpr m,cT,beq_eq_false_iff_ne.mpr n,cT,beq_eq_false_iff_ne.mpr r,cT,beq_eq_false_iff_ne.mpr s]
 simp
end
noncomputable def tA(b c:List à):List Addr:=c.filter λa=>decide (a∉b)
def nQ{a:à}:a∈tA as p0↔a∈p0/\a∉as:=by
 unfold tA;rw[cW,c8]
def D1:bF (ê H ps) (ê H (tA as ps)):=gO λa b=>(nQ.mp b).1
section
variable{K:aH}{B H:Hp}{m g:List à}{f:List Sl}{l:L2.St}{T:T8}{n:SpS}{j:Nat}
def pG.slotS(o:pG IC K B m H g f l T n)(c:f[j]?=wz (.val (vL T))):l[j]?=wz (wz (.ref T.p)):=by
 refine Â (o.ok.val j _ c) λv a b=>?_;rw[PK b]at a;exact a
def pG.shrS(o:pG IC K B m H g f l T n)(x:f[j]?=wz (.val (vL T))):Ok K (A1 B [T.p,T.q] H) (tA [T.p,T.q] m) H (tA [T.p,T.q] g) (f.set j (.val (WO n.kvs n.giv T.dp T.fw))) l:=by
 have u:=o.slotS x;obtain⟨ok,mem,nb,I,kv,r,t,G⟩:=o;have ok:=ok.lay mem;refine⟨ok.base,λa e=>nQ.mpr ⟨ok.sub a (nQ.mp e).1,(nQ.mp e).2⟩,λa e=>ok.live a (nQ.mp e).1,by rw[aF4];exact ok.len,λi d h=>?_,λi w h=>?_,λi k w Q p A C E F=>?_,?_⟩
 ·by_cases z:j=i
  ·subst z;rw[bO ((aJ.mp x).1)]at h;cases h;refine⟨_,u,.dct (lN (λz=>(nQ.mp z).2 gC) r) gL (.cons (Xb (lN (λz=>(nQ.mp z).2 gC) t) (G.same D1)) (.cons (.int _) (.cons (.int _) (.cons (.int _) .nil))))⟩
  ·rw[bG z]at h;refine Â (ok.val i d h) λv r t=>?_;exact⟨v,r,t.same D1⟩
 ·refine Ä (KN (by intro _ z;cases z) h) λ_ h=>?_;refine í (ok.own i w h) λq R L M N y O P=>?_;exact⟨q,R,L,nQ.mpr ⟨M,λz=>y (mem q z)⟩,N,λz=>y (nQ.mp z).1,O,P.same D1⟩
 ·exact ok.dis i k w Q p (KN (by intro _ z;cases z) A).2 (KN (by intro _ z;cases z) C).2 E F
 ·exact ok.dc.to (λi U kvs h=>by
   obtain⟨z,J⟩:=LQ (s:=.val (WO n.kvs n.giv T.dp T.fw)) (λ_ _ z=>nomatch z) h;exact⟨J,gL⟩) (λq S a b c=>⟨nQ.mpr ⟨a,λz=>c (mem q z)⟩,gL⟩) (λq S _ _ a b=>⟨a,λz=>b (nQ.mp z).1⟩) D1
def UL{g}(d:H T.p=wz (.dK k1))(h:H T.q=wz (.dK k2)):Dw (ê H (tA [T.p,T.q] g)) (ê H g):=λa u e c=>by
 unfold ê at e |-
 by_cases z:a∈tA [T.p,T.q] g
 ·lia
 ·rw[a8 z]at e;by_cases b:a∈g
  ·have:=Classical.byContradiction λy=>z (nQ.mpr ⟨b,y⟩);grind
  lia
end
section
variable{X:Cx}{e m b:æ}{c l:ET}{pos s u z:Pos}{i:Nat}
def Um(i:Nat)(t:ET):EZ IC:=λf n a Q=>∃T:T8,f=vL T/\a[i]?=wz (.val f)/\t (a.set i (.val (WO n.kvs n.giv T.dp T.fw))) λd=>ndc d=wx/\Q n d
def mW(i:Nat)(h:fP X e t):uE (F:=IC) X e (Um i t):=by
 refine Â h λv p r=>?_;refine⟨v,p,λB J H K G E T n Q j o h k=>?_⟩;refine Å h λI A y h=>?_;cases KH A;refine r _ _ H _ _ E _ j (o.shrS y) h λd x g a C f=>?_;refine õ o.tp λ_ kv q w _=>?_;exact k n d x g (.of a) (o.tp.grow a) (C.ndc (UL (a _ _ q) (a _ _ w)) f.1) f.2
def X3{K}{T:T8}(a:X6 T K H ps n)(g:T.q∈ps)(h:vD K (ê H ps) kvs kv):X6 T K (eS H T.q (.dK kv)) ps { n with kvs:=kvs }:=by
 refine õ a λd j f k o=>?_;exact⟨d,kv,by rw[bZ d];exact f,bU,by rw[fS g];exact h⟩
def Xa{K}{T:T8}{g:Int}(a:X6 T K H ps n)(j:T.p∈ps):X6 T K (eS H T.p (.dK (yf T g))) ps { n with giv:=g }:=by
 refine õ a λd kv k f h=>?_;exact⟨d,kv,bU,by rw[bZ (i5 d)];exact f,by rw[fS j];exact h⟩
def By{T:T8}:T.p∈IC.ad T:=aM ..
def ye{T:T8}:T.q∈IC.ad T:=aE _ (aM ..)
def Lj(i:Nat)(c:ET):SZ IC:=λg f n a=>c a λd=>∃j:Int,d=.int j/\a[i]?=wz (.val g)/\f.nx { n with giv:=j } a
def Yc(E:fP X e c)(K:∀{v},PE X e v->PS X (.Assign [.Subscript m b s] e pos) (YB (pD i) (tC (.str "given")) v)):zX (F:=IC) X (.Assign [.Subscript m b s] e pos) (Lj i c):=by
 refine Â E λv p r=>?_;refine⟨_,K p,λB J H w a A T n N O o h f=>r B J H w a A _ _ o.ok h λd x P y M L=>?_⟩;refine Å L λj z G q=>?_;subst z;cases M;have g:=o.grow y;refine õ (id g.tp) λI kv C Q R=>?_;have t:=o.mem' _ By;refine⟨.ref T.p,g.slotS G,T.p,_,gL,RC.k (k:=.inr "given") C gJ,?_⟩;exact f.nx _ w a A _ (g.there By (Xa g.tp t)) ((bR y).trans (by rw[fS t];exact L2.bF.refl _)) q
def Uk(i:Nat)(l c:ET):SZ IC:=λf d n a=>c a λx=>a[i]?=wz (.val f)/\l a λy=>∃j:Int,y=.int j/\n.kvs.length<=100000/\d.nx { n with kvs:=FC n.kvs j x } a
def RU(R:fP X b l)(Q:fP X e c)(W:∀{v E},PE X e v->PE X b E->PS X (.Assign [.Subscript m b s] e pos) (YB (XW (pD i) (tC (.str "rows"))) E v)):zX (F:=IC) X (.Assign [.Subscript m b s] e pos) (Uk i l c):=by
 refine Â Q λv p r=>?_;refine Â R λE Y ri=>?_;refine⟨_,W p Y,λB L H A a G T n DC DV o h f=>r B L H A a G _ _ o.ok h λd x N M r1 C=>?_⟩;refine Ä C λS C=>?_;have t:=o.grow M;refine õ (id t.tp) λU kv O P I=>?_;refine⟨.ref T.p,t.slotS S,T.p,.ref T.q,gL,zS.k (k:=.inr "rows") O,ri B L N A a G _ _ t.ok C λy yv H2 g r2 Z=>?_⟩;refine Å Z λj z hz q=>?_;subst z;cases r2;have K:=t.grow g;have J:=o.mem' _ ye;have hL:bN=2^24:=rfl;refine⟨T.q,_,gL,RC.k (k:=.inl j) (g _ _ P) (by rw[<- I.length];lia),?_⟩;have w:=X3 K.tp J ((I.same (bR g)).put (i:=j) (r1.same (bR g)));exact f.nx _ A a G _ (K.there ye w) ((bR (M.trans g)).trans (by rw[fS J];exact L2.bF.refl _)) q
def Uj(i:Nat)(l:ET):SZ IC:=λf d n a=>a[i]?=wz (.val f)/\l a λy=>∃(j:Int)(x:D),y=.int j/\qB n.kvs j=wz x/\d.nx { n with kvs:=C6 n.kvs j } a
def aC1(O:fP X b l)(S:autoParam (bV [b] X.env=(ww,è b X.env)::bV [] X.env) zzz._auto_1)(pc:∀{ta},PA X [b] ta->PS X (.Expr (.Call (.Attribute m "pop" u) [b] [] z) pos) (HV (RQ X.K "dict" (λx xs H Q=>∃(p:à)(kvs:List (lE×V))(k:lE)(v:V),x=.ref p/\xs=[kV k]/\H p=wz (.dK kvs)/\sT kvs k=wz v/\Q v (eS H p (.dK (nZ kvs k)))) (XW (pD i) (tC (.str "rows"))) ta))) :
  zX (F:=IC) X (.Expr (.Call (.Attribute m "pop" u) [b] [] z) pos) (Uj i l):=by
 refine Â O λvi W ri=>?_;refine⟨_,pc (eF W kX S),λB U H J r L T n DC DV o h f=>?_⟩;refine Ä h λP h=>?_;refine õ (id o.tp) λR kv M E N=>?_;refine⟨.ref T.p,o.slotS P,T.p,.ref T.q,gL,zS.k (k:=.inr "rows") M,.inr (.inr (.inl ⟨gL,.inl ⟨kv,E⟩⟩)),ri B U H J r L _ _ o.ok h λy yv H2 t Z Y=>?_⟩;refine Í Y λj x y g q=>?_;subst y;cases Z;have I:=o.grow t;have G:=o.mem' _ ye;have a:=N.same (bR t);rcases a.val j with⟨A,C⟩ | ⟨d,w,A,C,we⟩
 ·rw[g]at A;cases A
 ·refine⟨T.q,kv,.inl j,w,gL,gL,t _ _ E,C,?_⟩;exact f.nx _ J r L _ (I.there ye (X3 I.tp G (a.drop j))) ((bR t).trans (by rw[fS G];exact L2.bF.refl _)) q
end
section
variable{X:Cx}{j g:à}{e:æ}{k:List æ}{x y:â}{l p pos c:Pos}{jM:List é}{m:mO}
def MW{i:Nat}{u:SZ (hH F (mM g))}(ha:UB X (e::k) t)(pc:∀{ta},PA X (e::k) ta->PS X (.Assign [.Name y l] (.Call (.Name x p) (e::k) [] pos) c) (xT (XV j (LD j g X.K m) [] E0 ta) (nD i)))(hr:BI X jM u) :
  BI (F:=F) X (.Assign [.Name y l] (.Call (.Name x p) (e::k) [] pos) c::jM) (λτ DC n R=>t τ n R λn1 ds=>∃(fm:D)(dp ls:Int),ds=[fm,.int dp,.int ls]/\m ds λst=>∀T:Bk,T.fm=fm->T.dp=dp->T.ls=ls->u (.tuple [τ,lA T]) { nx:=λ_ _=>False,rt:=λn2=>DC.rt n2.1 } (n1,⟨[],0,st⟩) (R.set i (.val (MI j T)))):=by
 refine Â ha λva pa ra=>?_;refine Â hr λvr pr rr=>?_;refine⟨_,nK (pc pa) pr,λB p0 H C S R T0 n DC DV o h f=>?_⟩;refine ra B p0 H C S R T0 n _ _ o h λn1 ds vs E s1 t1 J q1=>?_;refine Ï q1 λfm dp ls V q1=>?_;subst V;intro x dx hx r di
 cases J with
 |cons rf J=>
 cases J with
 |cons rd J=>
 cases J with
 |cons rl J=>
 cases J;cases rd;cases rl;rename_i v1;have Z:=(o.growX s1 t1).ok;have nj:eS E dx (.own x) x=none:=by rw[bZ (i5 di)];exact hx
 have G:∀p∈x::C,BM (eS (eS E dx (.own x)) x (.ins j dx []) p):=λp hp=>by
  by_cases z:p=x
  ·subst z;exact⟨_,bU,gL⟩
  ·rw[bZ z];refine Â (Z.live p ((aQ.mp hp).resolve_left z)) λw Y h2=>?_;exact⟨w,dN r _ _ Y,h2⟩
 refine⟨x,dx,v1,dp,ls,x::C,fm,_,gL,aM ..,bU,G,by rw[(oS nj)];exact rf.same (bR (dN r)),q1,λT st U M e2 e3 sH s A tz qa q6=>⟨gL,?_⟩⟩;have P:T.p≠x:=λz=>by rw[z,bU]at s;cases s
 have Q:T.q≠x:=λz=>by rw[z,bU]at A;cases A
 have sx:E T.p=none:=by rw[bZ P]at s;exact bF.free' (dN r) s
 have gi:E T.q=none:=by rw[bZ Q]at A;exact bF.free' (dN r) A
 have s2:bF E U:=λa w e=>sH a w (by
  have N:a≠x:=λz=>by lia
  unfold ê;rw[a8 λz=>N (aU.mp z),bZ N];exact dN r _ _ e)
 have W:∀a∈[T.p,T.q],E a=none:=λa ha=>by
  grind
 have O:bF (ê E C) (ê U ([T.p,T.q]++C)):=λb w e=>by
  unfold ê at e |-
  by_cases hb:b∈C
  ·lia
  ·rw[a8 hb]at e;rw[a8 λz=>(bM.mp z).elim (λz=>by grind) hb];exact s2 b w e
 have L:=(mM g).to qa (λ_ _=>rfl) (gO λa ha=>by
  rcases aQ.mp ha with rfl | ha
  ·exact aM ..
  ·rcases aQ.mp ha with rfl | ha
   ·exact aE _ (aM ..)
   ·exact aE _ (aE _ (aE _ ha)))
 have ua:x∉[T.p,T.q]++C:=λz=>by
  rcases bM.mp z with z | z
  ·grind
  ·refine Â (Z.live x z) λw Y _=>?_;lia
 have oz:pG (hH F (mM g)) X.K B ([T.p,T.q]++p0) U ([T.p,T.q]++C) (S.set i (.val (MI j T))) (R.set i (wz (.ref x))) (T0,T) (n1,⟨[],0,st⟩):=
  ⟨(Z.wide s2 W ((mM g).liv (T:=T) (n:=⟨[],0,st⟩) L)).set (.ins (fs:=[("form",v1),("book",.ref T.p)]) (by unfold ê;rw[a8 ua];exact tz) (.cons (by rw[M];exact rf.same O) (.cons (KS T) .nil))),λa ha=>(bM.mp ha).elim (λz=>cG _ (o.mem a z)) (λz=>eG _ z),λa ha=>(bM.mp ha).elim (o.nb a) ((λa ha=>bF.free' Z.base (W a ha)) a),(λa ha z=>(F.liv t1 a ha).ne (W a z)),F.to t1 (λa ha=>by
   refine Â (F.liv t1 a ha) λu M _=>?_;rw[M];exact s2 a u M) O,L⟩
 exact rr B ([T.p,T.q]++p0) U ([T.p,T.q]++C) _ _ (T0,T) _ _ DV oz (q6 T M e2 e3) ⟨λ_ _ _ _ _ _ _ I=>I.elim,λ_ _ _ _ _ _ _ I=>I.elim,λ_ _ _ _ _ _ _ I=>I.elim,λn' d v H2 s' t' r' I=>f.rt n'.1 d v H2 s' (F.to t'.2.1 (λ_ _=>rfl) (gO λa ha=>cG _ ha)) (r'.same (gO λa ha=>cG _ ha)) I,e7⟩
end
section
variable{X:Cx}{e g:æ}{j:é}{b c:ET}{jM:List é}
def aC2{i:Nat}{u:SZ IC}(h3:fP X e b)(h4:fP X g c)
  (pc:∀{J L},PE X e J->PE X g L->PS X j (xT (Gi [(tC (.str "rows"),PF),(tC (.str "given"),tC (.int 0)),(tC (.str "deep"),J),(tC (.str "few"),L)]) (nD i))) (hr:BI X jM u) :
  xZ X (j::jM) (λM m=>b m λN=>∃dp:Int,N=.int dp/\c m λd4=>∃fw:Int,d4=.int fw/\∀T:T8,T.dp=dp->T.fw=fw->u (vL T) { nx:=λ_ _=>False,rt:=λ_=>M.rt } ⟨[],0⟩ (m.set i (.val (vL T)))):=by
 refine Â h3 λJ p3 r3=>?_;refine Â h4 λL p4 r4=>?_;refine Â hr λvr pr rr=>?_;refine⟨_,nK (pc p3 p4) pr,λB s H y l m M U o h f p C=>?_⟩;have R:Ok X.K B ([p]++s) (eS H p (.dK [])) ([p]++y) l m:=o.wide (dN C) (λa k=>by rw[aU.mp k];exact C) λa k=>by rw[aU.mp k];exact⟨_,bU,gL⟩
 intro q x;have S:bF (eS H p (.dK [])) (eS (eS H p (.dK [])) q (.dK [])):=dN x;have Q:Ok X.K B ([q]++([p]++s)) (eS (eS H p (.dK [])) q (.dK [])) ([q]++([p]++y)) l m:=R.wide S (λa k=>by rw[aU.mp k];exact x) λa k=>by rw[aU.mp k];exact⟨_,bU,gL⟩
 have w:p≠q:=λz=>by rw[<- z,bU]at x;cases x
 have t:B p=none:=bF.free' o.base C;refine r3 B _ _ _ l m _ _ Q h λN x3 H3 s3 Y F=>?_;obtain⟨dp,rfl,F⟩:=F;cases Y;have P:=Q.grow s3;refine r4 B _ _ _ l m _ _ P F λd4 x4 A I Z G=>?_;obtain⟨fw,rfl,G⟩:=G;cases Z;have E:A q=wz (.dK []):=I _ _ (s3 _ _ bU);refine⟨(I _ _ (s3 _ _ (S _ _ bU))),[(.inr "rows",.ref q),(.inr "given",.int 0),(.inr "deep",.int dp),(.inr "few",.int fw)],gL,aB gL,?_⟩;have O:p∈[q]++([p]++s):=by simp
 have mq:q∈[q]++([p]++s):=by simp
 let T:T8:=⟨p,q,dp,fw⟩
 have o5:Ok X.K B ([q]++([p]++s)) (eS A p (.dK (yf T 0))) ([q]++([p]++y)) l m:=(P.grow I).growZ (as:=[p]) (λa k=>by rw[aU.mp k];exact O) (λa k=>by rw[aU.mp k];exact t) (BY (aU.mpr gL)) λa k=>by rw[aU.mp k];exact⟨_,bU,gL⟩
 have n:∀a∈[p,q],a=p\/a=q:=λa k=>by simpa using k
 have oz:pG IC X.K B ([q]++([p]++s)) (eS A p (.dK (yf T 0))) ([q]++([p]++y)) (l.set i (.val (vL T))) (m.set i (wz (.ref p))) T ⟨[],0⟩:=
  ⟨o5.set (.addr _),λa k=>(n a k).elim (λz=>by rw[z];exact O) λz=>by rw[z];exact mq,λa k=>(n a k).elim (λz=>by rw[z];exact t) λz=>by rw[z];exact(bF.free' R.base x),w,[],bU,by rw[bZ (i5 w)];exact E,.nil⟩
 exact rr B _ _ _ _ _ T _ _ U oz (G T gL gL) ⟨λ_ _ _ _ _ _ _ r=>r.elim,λ_ _ _ _ _ _ _ r=>r.elim,λ_ _ _ _ _ _ _ r=>r.elim,λn' d v W s' t' r' r=>f.rt d v W s' (r'.same (gO λa k=>cG _ (cG _ k))) r,e7⟩
end
end TL
namespace L2
section
variable{X:Cx}
def Db:V->List V->Hp->VK->Prop:=λx a H Q=>∃z y,x=.str z/\a=[.str y]/\z.length<=100000/\Q (.str (Txt.rstripChars z y)) H
def Wc:OY X "str.rstrip" Db:=by
 intro a s j H x i v g Q I c r h;refine Ñ h λz y w p f q=>?_;subst w p;refine Ã c λt w=>?_;subst w;refine Â (nI r) λu w b=>?_;subst w;refine Ã b λd w=>?_;subst w;have e:bN=2^24:=rfl;exact SC.rstripChars (λd k=>⟨.str _,H,I.tok _,⟨_,gL⟩,q⟩) eH
end
end L2
namespace TL
open L2
section
variable{X:Cx}{e:æ}{a:List æ}{b:ET}{pos:Pos}
def Kx(z:â)(c:List D)(Q:D->Prop):Prop:=match c with | [.str y]=>z.length<=100000/\Q (.str (Txt.rstripChars z y)) | _=>False
def Ve(s:fP X n b)(r:yA X (e::a) t)
  (w:∀{v ta},PE X n v->PA X (e::a) ta->PE X (.Call (.Attribute n "rstrip" ap) (e::a) [] pos) (RQ X.K "str" Db v ta)):fP X (.Call (.Attribute n "rstrip" ap) (e::a) [] pos) (JO Kx b t):=by
 refine Â s λv A I=>?_;refine Â r λO u G=>?_;refine⟨_,w A u,λB i H j f p Q M o h k=>I B i H j f p _ _ o h λd x q m C g=>?_⟩;obtain⟨z,rfl,g⟩:=g;cases C;refine⟨gL,G B i q j f p _ _ (o.grow m) g λN P L J E c=>?_⟩
 cases E with
 |nil=>exact c.elim
 |cons l F=>
  cases F with
  |cons _ _=>cases l<;>exact c.elim
  |nil=>
   cases l with
   |str y=>exact⟨z,y,gL,gL,c.1,k _ _ _ (m.trans J) (.str _) c.2⟩
   |_=>exact c.elim
end
end TL
namespace L2
section
variable{X:Cx}{f:List (à×Obj)}{g:St}{H:Hp}{s:ã}{d:à}
def Gk(Wd:á->Prop)(i:Nat)(rt:St->Hp->(Hp->XK)->Prop)(k:à->TS):TS:=λD g H=>rt g H λe b dx h=>Wd b /\
 ∃C,b=.ref C/\∀d,e d=wy->h d=wy->(∀a,dx=wz a->e a=wy)->k d { nx:=λc j=>D.nx (c.set i wy) j,rt:=λ_ _=>False } (g.set i (wz (.ref d))) (eS h d (.ext (TL.sQ d C dx)))
def SD{Wd:á->Prop}{J:à}{i:Nat}{n jn:â}{st}{rt:St->Hp->(Hp->XK)->Prop}{ts:à->TS}(hq:OM X)(l:X.stack=X.env::X.outer)(mj:X.env.frame=wz X.env.locals)(hN:X.N.Nodup)(hi:X.N[i]?=wz n)(hx:X.env.scope.names.lookup n=wz .local)
  (S:pre=[]\/∃(J0:à)(m:â)(W:Pos)(n0:Option â)(G:List é)(R:Pos),pre=[.ExceptHandler (wz (.Name m W)) n0 G R]/\Gl X m/\X.mg m=wz (.ref J0)/\(m==("__debug__":â))=ww/\∀c,Wd c->iL X.K c (.ref J0)=wz ww) (hg:Gl X jn) (hm:X.mg jn=wz (.ref J)) (h1:∀c,Wd c->iL X.K c (.ref J)=wz wx)
  (hs:RS X st rt) (hb:∀d,DP (X.marked d) (b0::suite) (ts d)) (hd:autoParam ((jn==("__debug__":â))=false) zzy._auto_1) :
  PS X (.Try [st] (pre++.ExceptHandler (wz (.Name jn jp)) (wz n) (b0::suite) hp::hs') [] [] pos) (Gk Wd i rt ts):=by
 intro f s g H D I h;rcases S with rfl | ⟨J0,m,W,n0,G,R,rfl,qw,sk,ju,h0⟩
 all_goals
  refine wpAny_Try_except (dr (eN (hs f s g H _ I h) (λ_ _ z=>z.elim) λe y hz=>?_));obtain⟨H1,s1,F,d,T,dx,cls,a0,B,rfl,os,bare,un,hok,x,n1,n2,n3,n4,n5,hW,C,rfl,p⟩:=hz;have I2:dL X f g B y:=F.call' (ch:=[]) os un hok bare λb z=>b9 z gC;have M:X.A.frames=wz (X.env::X.outer):=by rw[<- l];exact I.ok.frames
  have U:y.heap.FunFrames X.base (X.env::X.outer):=by rw[<- l];exact I2.stack
  have t:∀b,s1.heap.get? b=wy->b∉tT (X.env::X.outer):=λb hb z=>by
   rw[<- l]at z;refine È (F.stack.mem z) λ_ o ho _=>?_;rw[hb]at ho;cases ho
  have j:∀b∈tT (X.env::X.outer),B b=none:=λb hb=>by rw[<- l]at hb;exact I2.stkFree b hb
  refine IU (base:=X.base) M U mj x (t d n3) (t T n4) λh3 r sz kb x3=>?_;have qi:B r=none:=hok.fresh sz
  have qj:s1.heap.get? r=none:=by
   cases q:s1.heap.get? r with
   |none=>rfl
   |some o=>refine Ã (un.there r o q gC) λo' z=>?_;rw[qW sz]at z;cases z
  refine uY (s:={ y with heap:=h3 }) x3 λh4 k4 x4=>?_;have E:hZ (tT (X.env::X.outer)) [d,T,r] y.heap h4:=(kb.more λb hb=>aQ.mpr ((aQ.mp hb).imp id λz=>aQ.mpr (.inl (aU.mp z)))).trans (.of λb u eb c=>k4 b u eb λz=>c (by rw[z];simp))
  have nw:∀b o,s1.heap.get? b=wz o->b∉[d,T,r]/\(b∈tT (X.env::X.outer)->b∈tT X.stack):=λb o e=>by
   refine⟨λz=>?_,λz=>by rw[l];exact z⟩;simp only[aQ,cP,i6]at z;rcases z with rfl | rfl | rfl
   ·rw[n3]at e;cases e
   ·rw[n4]at e;cases e
   ·rw[qj]at e;cases e
  have L:∀b∈[d,T,r],B b=none:=λb z=>by
   simp only[aQ,cP,i6]at z;rcases z with rfl | rfl | rfl
   ·exact n1
   ·exact n2
   ·exact qi
  have ut:=un.but E nw;have O:=hok.butX E j L;have I4:dL X f g B { y with heap:=h4 }:=F.call' (ch:=[]) os ut O bare λb z=>b9 z gC;have Z:=I4.mark d;refine í x4.ex λoe ve ge ce de uz _ _=>?_;have LT:HG (ä X.prog X.w) h4 (typeOf (.ref d)) (.ref C):=ce▸(HG.ld ge).andThen .now
  try
   refine io (gq (xG (X:=X.marked d) Z qw sk (((WX Z.kIn LT (h0 _ hW)).at ?_)) ju)) (λz=>nomatch z);rw[a8 cS]
  refine io (gq (xG (X:=X.marked d) Z hg hm (((WX Z.kIn LT (h1 _ hW)).at ?_)) hd)) (λz=>nomatch z);rw[b7 rfl];refine codeAny_handlers_suite_as (uY (s:={ y with heap:=h4 }) x4 λh5 k5 x5=>?_);have Y:hZ (tT (X.env::X.outer)) [d,T,r] y.heap h5:=E.trans (.of λb u eb c=>k5 b u eb λz=>c (by rw[z];simp));have uu:=un.but Y nw;have P:=hok.butX Y j L;refine í x5.ex λo5 v5 g5 c5 d5 qc _ _=>?_;have sy:=p d (F.hok.out n3) n1 λa z=>F.hok.out (n5 a z);have Q:rG X.prog X.w (eS B d (.ext (TL.sQ d C dx))) h5:=P.track n1 ⟨⟨o5,v5,g5,c5,d5,qc⟩,⟨o5,g5⟩,λha hb ⟨o,v,y1,y2⟩ k=>⟨o,v,k o y1,y2⟩⟩;have I5:dL X f g (eS B d (.ext (TL.sQ d C dx))) { y with heap:=h5 }:=F.call' (ch:=[]) os (uu.track n1 n3) Q bare λb z=>b9 z gC;refine EX I5 hN hi (.inl hx) (v:=.ref d) gL (λs6 I6=>?_) (.inr hx);refine eN (hb d f s6 _ _ _ (I6.mark d) sy) (λfl s7 h7=>?_) λe s7 z=>b9 z (hq e s7)
  cases fl with
  |next=>
   refine Î h7 λv4 H' J7 q=>?_;exact Zy (I6.unmark J7) hN hi hx λs8 I8=>⟨_,H',I8,q⟩
  |brk=>refine Î h7 λ_ _ _ z=>?_;exact z.elim
  |cont=>refine Î h7 λ_ _ _ z=>?_;exact z.elim
  |ret u=>refine Ð h7 λ_ _ _ _ _ z=>?_;exact z.elim
end
end L2
namespace TL
open L2
section
variable{F:sZ}{X:Cx}{pos:Pos}{st:é}
def Uo(Wd:á->Prop)(i:Nat)(t:EZ F)(g:SZ F):SZ F:=λe b n c=>t e n c λn1 d=>(∃C:à,d=.dict [(.int (C:Nat),.none)]/\Wd (.ref C)) /\
 g e { nx:=λf a=>b.nx f (a.set i .un),rt:=λ_ _=>False,xB:=b.xB } n1 (c.set i (.val d))
def RT{Wd:á->Prop}{i:Nat}(z:Ij X st t)(hb:∀a,BI (X.marked a) (l::suite) ts)
  (pt:∀{rt:L2.St->Hp->(Hp->XK)->Prop}{r:à->TS},RS X st rt->(∀a,DP (X.marked a) (l::suite) (r a))->PS X (.Try [st] hs' [] [] pos) (Gk Wd i rt r)):zX X (.Try [st] hs' [] [] pos) (Uo Wd i t ts):=by
 refine Â z λrt rs G=>?_;refine⟨_,pt rs (λa=>(hb a).choose_spec.1),λB m H p j P T n k R o h f=>G B m H p j P T n _ _ o h λn1 d v dx S U J K Y M O q=>?_⟩;obtain⟨⟨C,hd,y⟩,q⟩:=q;refine Ó O λQ x Z V N=>?_;subst Z V;subst x;obtain rfl:=Xs hd;refine⟨y,_,gL,λa W w _=>?_⟩;refine Ä (o.exc (i:=i) J K M N w) λE L=>?_;refine(hb a).choose_spec.2 B m _ p _ _ T n1 { nx:=λe c=>k.nx e (c.set i .un),rt:=λ_ _=>False,xB:=k.xB } _ E q ⟨λu g s c e A I b=>?_,λ_ _ _ _ _ _ _ b=>b.elim,λ_ _ _ _ _ _ _ b=>b.elim,λ_ _ _ _ _ _ _ b=>b.elim,f.xb⟩;exact f.nx u g _ _ e (A.away i) (L.trans I) b
end
end TL
namespace K72
open L2 TL
noncomputable def top(i:Nat):Stmt:=PySem.Challenge.pw_leafjudge_k72_whole_desk_beside_rows.main.body.getD i (.Pass ⟨0,0,0,0⟩)
structure Ez(K:aH)(c:à):Prop where
 X:sN K c
 R:Cm K c
 e:iL K (.ref c) (.ref c)=wz wx
 v:eY K (.ref c) (.type "ValueError")=wz wx
structure Cz(K:aH)(mg:â->Option á)(w6 w5 y3 u2 z4 m5 m4:à):Prop where
 x_TooMany:mg "TooMany"=wz (.ref w6)
 x_NoPlace:mg "NoPlace"=wz (.ref w5)
 x_NoRow:mg "NoRow"=wz (.ref y3)
 x_NoSuch:mg "NoSuch"=wz (.ref u2)
 x_NoLine:mg "NoLine"=wz (.ref z4)
 x_NoText:mg "NoText"=wz (.ref m5)
 x_NoRule:mg "NoRule"=wz (.ref m4)
 E_NoRow:Ez K y3
 E_NoSuch:Ez K u2
 q_NoRow:lD K (.ref y3) [.ref z4,.ref w5,.ref m4,.ref u2,.ref m5,.ref w6]=wz ww
 q_NoSuch:lD K (.ref u2) [.ref z4,.ref w5,.ref m4,.ref y3,.ref m5,.ref w6]=wz ww
 u_NoSuch_NoRow:iL K (.ref u2) (.ref y3)=wz ww
structure Txt(K:aH)(mg:â->Option á)(w6 w5 y3 u2 z4 m5 m4:à)(kg ji jj kh jk ki jm jo jq kj gf fi fj gg:à)(m3 y0:à)(t_SIDES t_SINGLE_WORDS:à)(z5 y4 bc u5 bd:Tok):Prop extends Cz K mg w6 w5 y3 u2 z4 m5 m4 where
 x_Book:mg "Book"=wz (.ref m3)
 C_Book:BN K m3
 K_Book:Mk K m3 ki
 n_Book_form:fW K m3 "form"
 n_Book_deep:fW K m3 "deep"
 n_Book_least:fW K m3 "least"
 n_Book_numbered:fW K m3 "numbered"
 n_Book_following:fW K m3 "following"
 n_Book_standing:fW K m3 "standing"
 M_6:yB K m3 "put" jm
 M_7:yB K m3 "out" jo
 M_8:yB K m3 "turn" jq
 M_9:yB K m3 "rows" kj
 M_10:yB K m3 "tree" gf
 M_11:yB K m3 "refuse_no_row" fi
 M_12:yB K m3 "refuse_no_number" fj
 M_13:yB K m3 "grow_anew" gg
 x_Desk:mg "Desk"=wz (.ref y0)
 C_Desk:BN K y0
 K_Desk:Mk K y0 kg
 n_Desk_form:fW K y0 "form"
 n_Desk_book:fW K y0 "book"
 M_1:yB K y0 "say" ji
 M_2:yB K y0 "done" jj
 M_3:yB K y0 "told_of_book" kh
 M_4:yB K y0 "told_of_case" jk
 D_0:Dg K "__init__" "Desk.__init__" (iK (top 77) 0) kg ["self","form","deep","least"]
 D_1:Dg K "say" "Desk.say" (iK (top 77) 1) ji ["self","text"]
 D_2:Dg K "done" "Desk.done" (iK (top 77) 2) jj ["self","words"]
 D_3:Dg K "told_of_book" "Desk.told_of_book" (iK (top 77) 3) kh ["self","word"]
 D_4:Dg K "told_of_case" "Desk.told_of_case" (iK (top 77) 4) jk ["self","word","case"]
 D_5:Dg K "__init__" "Book.__init__" (iK (top 51) 0) ki ["self","form","deep","least"]
 D_6:Dg K "put" "Book.put" (iK (top 51) 1) jm ["self","row"]
 D_7:Dg K "out" "Book.out" (iK (top 51) 2) jo ["self","number"]
 D_8:Dg K "turn" "Book.turn" (iK (top 51) 3) jq ["self","number","row"]
 D_9:Dg K "rows" "Book.rows" (iK (top 51) 4) kj ["self"]
 D_10:Dg K "tree" "Book.tree" (iK (top 51) 5) gf ["self"]
 D_11:Dg K "refuse_no_row" "Book.refuse_no_row" (iK (top 51) 6) fi ["self","thing"]
 D_12:Dg K "refuse_no_number" "Book.refuse_no_number" (iK (top 51) 7) fj ["self","number"]
 D_13:Dg K "grow_anew" "Book.grow_anew" (iK (top 51) 8) gg ["self"]
 D_14:Df K mg "is_tuple_of" (top 10) ["thing","fewest","most"]
 D_15:Df K mg "is_case" (top 12) ["form","thing"]
 D_16:Df K mg "is_row" (top 13) ["form","thing"]
 D_17:Df K mg "entries_of" (top 14) ["field"]
 D_18:Df K mg "counted" (top 16) ["form","rows"]
 D_19:Df K mg "first_answer" (top 17) ["form","rows"]
 D_20:Df K mg "doubt_of" (top 18) ["form","rows"]
 D_21:Df K mg "fraction" (top 19) ["top","bottom"]
 D_22:Df K mg "common_divisor" (top 20) ["one","other"]
 D_23:Df K mg "added" (top 21) ["one","other"]
 D_24:Df K mg "is_less" (top 22) ["one","other"]
 D_25:Df K mg "common_bottom" (top 23) ["fractions"]
 D_26:Df K mg "questions_of" (top 26) ["form"]
 D_27:Df K mg "questions_on" (top 27) ["field"]
 D_28:Df K mg "choices_of" (top 28) ["form"]
 D_29:Df K mg "side_of" (top 29) ["form","question","stray","case"]
 D_30:Df K mg "field_asked" (top 30) ["form","question"]
 D_31:Df K mg "entries_to_yes" (top 31) ["question","stray","field"]
 D_32:Df K mg "values_held" (top 32) ["question","field"]
 D_33:Df K mg "parted" (top 33) ["form","question","stray","rows"]
 D_34:Df K mg "numbers_on" (top 34) ["side","sides"]
 D_35:Df K mg "is_proper" (top 35) ["sides","fewest"]
 D_36:Df K mg "ranked" (top 37) ["form","rows","least"]
 D_37:Df K mg "rows_at" (top 38) ["rows","numbers"]
 D_38:Df K mg "best" (top 39) ["form","rows","least"]
 D_39:Df K mg "grown" (top 40) ["form","rows","deep","least"]
 D_40:Df K mg "is_leaf" (top 42) ["tree"]
 D_41:Df K mg "on_side" (top 43) ["knot","side"]
 D_42:Df K mg "way_of" (top 45) ["form","tree","case"]
 D_43:Df K mg "sides_of_way" (top 46) ["form","tree","case"]
 D_44:Df K mg "answer_of" (top 47) ["form","tree","case"]
 D_45:Df K mg "part_at" (top 48) ["tree","place"]
 D_46:Df K mg "changed" (top 52) ["one","other"]
 D_47:Df K mg "shown_tree" (top 71) ["tree"]
 D_48:Df K mg "is_line" (top 78) ["words"]
 D_49:Df K mg "is_number" (top 79) ["word"]
 D_50:Df K mg "row_written" (top 80) ["words"]
 D_51:Df K mg "case_written" (top 81) ["words"]
 D_52:Df K mg "shown_entry" (top 82) ["entry"]
 D_53:Df K mg "shown_rows" (top 83) ["rows"]
 D_54:Df K mg "shown_turn" (top 84) ["question","side"]
 D_55:Df K mg "_law_tape" (top 89) ["_law_script"]
 D_56:Df K mg "_law_draw" (top 90) ["_law_tape_here","_law_many"]
 D_57:Df K mg "_law_names" (top 91) ["_law_tape_here","_law_many"]
 D_58:Df K mg "_law_form" (top 92) ["_law_tape_here","_law_fields","_law_values"]
 D_59:Df K mg "_law_side" (top 93) ["_law_form_here","_law_knot","_law_case"]
 D_60:Df K mg "_law_questions" (top 94) ["_law_form_here"]
 D_61:Df K mg "_law_counts" (top 95) ["_law_form_here","_law_rows"]
 D_62:Df K mg "_law_doubt" (top 96) ["_law_form_here","_law_rows"]
 D_63:Df K mg "_law_grown" (top 97) ["_law_form_here","_law_rows","_law_deep","_law_few"]
 D_64:Df K mg "_law_drawn_row" (top 98) ["_law_tape_here","_law_form_here"]
 D_65:Df K mg "_law_as_word" (top 99) ["_law_value"]
 D_66:Df K mg "_law_row_text" (top 100) ["_law_row"]
 D_67:Df K mg "_law_tree_text" (top 101) ["_law_tree"]
 D_68:Df K mg "_law_why_text" (top 102) ["_law_form_here","_law_tree","_law_case"]
 D_69:Df K mg "_law_said" (top 103) ["_law_desk","_law_text_here"]
 D_70:Df K mg "_law_bad_words" (top 104) ["_law_tape_here","_law_form_here","_law_row"]
 D_71:Df K mg "_law_bad_case" (top 105) ["_law_tape_here","_law_row"]
 D_72:Df K mg "_law_bad_text" (top 106) ["_law_tape_here","_law_form_here","_law_state"]
 D_73:Df K mg "_law_text" (top 107) ["_law_tape_here","_law_form_here","_law_state"]
 D_74:Df K mg "_law_tree_of" (top 108) ["_law_form_here","_law_state"]
 D_75:Df K mg "_law_rows_text" (top 109) ["_law_state"]
 D_law:Df K mg "law" (top 110) ["_law_script"]
 c_SIDES:mg "SIDES"=wz (.ref t_SIDES)
 t_SIDES:xt K t_SIDES ["yes","no"]
 c_MOST_ROWS:mg "MOST_ROWS"=wz (.int 60 z5)
 c_MOST_RULES:mg "MOST_RULES"=wz (.int 60 y4)
 c_FIGURES:mg "FIGURES"=wz (.str "0123456789" bc)
 c_MOST_FIGURES:mg "MOST_FIGURES"=wz (.int 9 u5)
 c_SINGLE_WORDS:mg "SINGLE_WORDS"=wz (.ref t_SINGLE_WORDS)
 t_SINGLE_WORDS:xt K t_SINGLE_WORDS ["tree","rows","rules","steps"]
 c_LACKING:mg "LACKING"=wz (.str "-" bd)
 L_36:GR K (xV K (qT mg "ranked")).code
 b_ValueError:mg "ValueError"=wy
 b_all:mg "all"=wy
 b_enumerate:mg "enumerate"=wy
 b_int:mg "int"=wy
 b_isinstance:mg "isinstance"=wy
 b_len:mg "len"=wy
 b_list:mg "list"=wy
 b_max:mg "max"=wy
 b_range:mg "range"=wy
 b_sorted:mg "sorted"=wy
 b_str:mg "str"=wy
 b_sum:mg "sum"=wy
 b_tuple:mg "tuple"=wy
 b_zip:mg "zip"=wy
abbrev Fs:=List (â×List â)
noncomputable def iX:Str:="abcdefghijklmnopqrstuvwxyz"
noncomputable def zp(c:Nat):Bool:=Txt.contains iX ⟨#[c]⟩
noncomputable def tR(z:â):Bool:=decide (1<=z.length)&&decide (z.length<=8)&&z.cps.toList.all zp
noncomputable def nm:D->Bool
|.str z=>tR z
|_=>ww
noncomputable def yH(d:D)(lo a:Int):Bool:=match d with | .tuple ts=>decide (lo<=ts.length)&&decide ((ts.length:Int)<=a) | _=>ww
noncomputable def Iq:D->â
|.str z=>z
|_=>""
noncomputable def Ix(d:D)(lo a:Int):Bool:=match d with | .tuple ts=>decide (lo<=ts.length)&&decide ((ts.length:Int)<=a)&&ts.all nm&&decide ((ts.map Iq).Nodup) | _=>ww
noncomputable def fld:D->Bool
|.tuple [n,vs]=>nm n&&Ix vs 2 5
|_=>ww
noncomputable def fst:D->D
|.tuple (n::_)=>n
|_=>.none
def Re:mO:=λb Q=>∃d lo a,b=[d,.int lo,.int a]/\d.hasDict=ww/\Q (.bool (yH d lo a))
def L8(n:Nat)(a:List â):Prop:=a.length=n/\(∀y∈a,tR y=wx)/\a.Nodup
noncomputable def qE(f:â×List â):D:=.tuple [.str f.1,.tuple (f.2.map aI)]
noncomputable def gM(fs:Fs)(an:List â):D:=.tuple [.tuple (fs.map qE),.tuple (an.map aI)]
structure eW(fs:Fs)(an:List â):Prop where
 n1:1<=fs.length
 n5:fs.length<=5
 nd:L8 fs.length (fs.map (·.1))
 vs:∀f∈fs,2<=f.2.length/\f.2.length<=5/\L8 f.2.length f.2
 a2:2<=an.length
 a4:an.length<=4
 an:L8 an.length an
 n3:fs.length<=3
def Sx:WT:=λa Q=>∃ns:List Int,a=[.list (ns.map bW)]/\ns.length<=63/\∀c,(c=0\/c=1)->Q [.list (ns.map bW),.int 0,.int 0,.int c]
def Sy:mO:=λa Q=>∃ns m,a=[jP ns,.int m]/\ns.length<=63/\0<m/\m<=10000/\∀r,0<=r->r<m->Q (.int r)
def Sz:mO:=λb Q=>∃(ns:List Int)(m:Nat),b=[jP ns,.int m]/\ns.length<=63/\1<=m/\m<=5/\∀a,L8 m a->Q (.list (a.map aI))
def Ta:mO:=λa Q=>∃(ns:List Int)(f v:Nat),a=[jP ns,.int f,.int v]/\ns.length<=63/\1<=f/\f<=3/\2<=v/\v<=5/\∀fs an,eW fs an->fs.length<=f->(∀x∈fs,x.2.length<=v)->Q (gM fs an)
noncomputable def Ed:D->Bool
|.tuple [_,_]=>wx
|_=>ww
def Xq(d:D):(∃a b,d=.tuple [a,b])\/(yH d 2 2=ww/\Ed d=ww):=by
 cases d with
 |tuple c=>
  match c with
  |[]=>exact .inr ⟨gL,gL⟩
  |[_]=>exact .inr ⟨gL,gL⟩
  |[a,b]=>exact .inl ⟨a,b,gL⟩
  |_::_::_::r=>
   refine .inr ⟨?_,gL⟩;simp only[yH,bD];have:¬(((r.length+1+1+1:Nat):Int)<=2):=by lia
   simp[this];lia
 |_=>exact .inr ⟨gL,gL⟩
def wN{c:Type}{xs:List c}{i:Int}(d:0<=i)(e:i<xs.length):∃a,a∈xs/\L2.atI xs i=wz a/\xs[i.toNat]?=wz a:=by
 have b:i.toNat<xs.length:=by lia
 refine⟨xs[i.toNat],iY b,?_,aL b⟩;have:=L2.eR (aL b)
 grind
def kG(n:Nat):(fA n).length=n:=by unfold fA;simp
def uW{n k:Nat}(h:(fA n)[k]?=wz x):k<n/\x=.int k:=by
 unfold fA at h;grind
def pQ{b:Type}(a:List b)(j:Nat):fY a wy (wz (j:Int))=a.take j:=by
 unfold fY;rw[HT.sIx_none,HT.sIx_nat,pK,sJ];simp
def sX{b:Type}(a:List b)(i:Nat):fY a (wz (i:Int)) wy=a.drop i:=by
 unfold fY;rw[HT.sIx_none,HT.sIx_nat];by_cases h:i<=a.length
 ·rw[xR h,fJ (by rw[dF];lia)]
 ·rw[GW eH,pL (aP _),pL eH];simp
def Hn{f:Type}(b:List f)(i j:Nat):fY b (wz (i:Int)) (wz (j:Int))=(b.drop i).take (j-i):=by
 unfold fY;rw[HT.sIx_nat,HT.sIx_nat];apply kK;intro k;rw[oK,oK,lZ,lZ];by_cases d:i<=b.length
 ·rw[xR d];by_cases e:j<=b.length
  ·rw[xR e]
  ·rw[GW eH];by_cases c:k<b.length-i
   ·rw[b7 c,b7 eH]
   ·rw[a8 c];by_cases a:k<j-i
    ·rw[b7 a,eM eH]
    ·rw[a8 a]
 ·rw[a8 eH];by_cases a:k<j-i
  ·rw[b7 a,eM eH]
  ·rw[a8 a]
def hX{c d:Type}(f:c->d)(b:List c)(lo a:Option Int):fY (b.map f) lo a=(fY b lo a).map f:=by
 unfold fY;rw[aC,aLw,aLx]
def ZV{z:â}(a:1<=z.cps.toList.length)(b:z.cps.toList.length<=8)(d:∀c∈z.cps.toList,c∈iX.cps.toList):tR z=true:=by
 have e:z.length=z.cps.toList.length:=by simp[o4]
 unfold tR;rw[e,a9 a,a9 b];simp only[kQ,gG];intro c f;unfold zp;rw[Hv];grind
def AU{z:â}(h:tR z=wx):1<=z.length/\z.length<=8/\∀c∈z.cps.toList,c∈iX.cps.toList:=by
 unfold tR at h;simp only[dH,c8,gG]at h;refine⟨h.1.1,h.1.2,λc a=>?_⟩;have:=h.2 c a;unfold zp at this;rw[Hv]at this;lia
theorem nodup_range{f:Type}{n:Nat}(F:Nat->f)(inj:∀i j,i<n->j<n->F i=F j->i=j):((gA n).map F).Nodup:=by
 rw[aUg,pI];have:(gA n).Nodup:=List.nodup_range;refine MP.imp_of_mem (λ{a b} d hb c e=>?_) this;grind
def QG:iX.cps.toList.Nodup:=by decide +kernel
def C3:iX.cps.toList.length=26:=by rfl
def Zj{a:List Nat}(nd:a.Nodup){i j:Nat}{c:Nat}(d:a[i]?=wz c)(e:a[j]?=wz c):i=j:=by
 obtain⟨f,a2⟩:=aJ.mp d;obtain⟨g,b⟩:=aJ.mp e;exact(aCp nd).mp (a2.trans b.symm)
theorem M1:∀{ys},(∀y∈ys,∃c,c∈iX.cps.toList/\y=.str ⟨#[c]⟩)->∃a:List Nat,ys=a.map (λc=>aI ⟨#[c]⟩)/\∀c∈a,c∈iX.cps.toList
|[],_=>⟨[],gL,λc h=>by simp at h⟩
|y::ys,h=>by
 obtain⟨c,e,rfl⟩:=h y (aM ..);obtain⟨a,rfl,b⟩:=M1 λy f=>h y (aE _ f);refine⟨c::a,gL,λd hd=>?_⟩;grind
def FY(a:List Nat):(Txt.join ⟨#[]⟩ (a.map λc=>⟨#[c]⟩)).cps.toList=a:=by
 rw[QM,bJ]
 induction a with
 |nil=>rfl
 |cons c a b=>rw[aX,aB8,b];rfl
def aBx{a:List â}{k:Nat}(h:k<a.length):L2.atI (a.map aI) (k:Int)=wz (.str a[k]):=L2.eR (by simp)
def KO{c:ET}{i:Nat}(ns:List Int)(b:σ[i]?=wz (.val (jP ns)))(a:Int)(h:∀q,q (.int a)->c σ q)(d:0<=a)(k:u DT σ):qO (AJ i 1 c) u DT σ:=h _ ⟨⟨ns,b⟩,⟨a,gL,d⟩,k⟩
def AI{c:ET}{i:Nat}(ns:List Int)(b:σ[i]?=wz (.val (jP ns)))(a:Int)(h:∀q,q (.int a)->c σ q)(k:u DT σ):qO (AJ i 2 c) u DT σ:=h _ ⟨⟨ns,b⟩,⟨a,gL⟩,k⟩
def K6{d:ET}{c:DB}{i:Nat}(ns:List Int)(b:σ[i]?=wz (.val (jP ns)))(a:Int)(h:∀q,q (.int a)->d σ q)(k:c.nx σ):AJ i 2 d c σ:=h _ ⟨⟨ns,b⟩,⟨a,gL⟩,k⟩
def E6{c:yN}{m:ET}{u:zW}{a:List Sl}{i:Nat}(C:Prop)(R:D->Prop)(h:∀q,(∀b,(b=wx->C)->q b)->c a q)(n:C->∀q,(∀d,R d->q d)->m a q)(f:D)(g:a[i]?=wz (.val f))(o:R f)(k:∀d,R d->u DT (a.set i (.val d))):qO (lS c (KP i m) pW) u DT a:=by
 refine h _ λb hb=>?_
 cases b with
 |true=>
  rw[b7 rfl];exact n (hb gL) _ k
 |false=>
  rw[a8 cS]
  have e:a.set i (.val f)=a:=by
   apply kK;intro j;by_cases l:i=j
   ·subst l;rw[bO (aJ.mp g).1,g]
   ·rw[bG l]
  have:=k f o;rw[e]at this;exact this
def FN{n:Nat}(F:Nat->â)(h:∀i,i<n->tR (F i)=wx)(inj:∀i j,i<n->j<n->F i=F j->i=j):L8 n ((gA n).map F):=
 ⟨gC,λy b=>by
  grind,nodup_range F inj⟩
def IV{n:Nat}{a:List â}(h:L8 n a)(t:Nat){m:Nat}(d:m<=n):L8 m ((a.drop t++a.take t).take m):=by
 have b:(a.drop t++a.take t).Perm a:=by
  have:(a.take t++a.drop t).Perm a:=by rw[List.take_append_drop]
  exact List.perm_append_comm.trans this
 refine⟨?_,λy c=>h.2.1 y (b.mem_iff.mp (dX c)),(b.nodup_iff.mpr h.2.2).sublist (DD _ _)⟩;rw[bH,b.length_eq,h.1];lia
def VB{n:Nat}{a:List â}(h:L8 n a)(t:Nat):L8 n (a.drop t++a.take t):=by
 have e:=IV h t (aP n)
 rwa [fJ]at e
 rw[aR,dF,bH,h.1];omega
def VC{n:Nat}{a:List â}(h:L8 n a){m:Nat}(c:m<=n):L8 m (a.take m):=⟨by rw[bH,h.1];lia,λy b=>h.2.1 y (dX b),h.2.2.sublist (DD _ _)⟩
noncomputable def EA:List Str:=["say","ask","is","upto","yes","no","all","in","and","put","out","tree"]
def Oi:L8 12 EA:=⟨gL,cR,cR⟩
def OH{ns:List Int}(h:0<ns.length)(i:Int):∃x,L2.atI (ns.map bW) (i%((ns.map bW).length:Nat))=wz (.int x):=by
 rw[aC];refine Å (wN (xs:=ns.map bW) (i:=i%(ns.length:Nat)) (oO _ eH) (by rw[aC];exact mJ _ eH)) λa d c _=>?_;obtain⟨b,hb,rfl⟩:=aS.mp d;exact⟨b,c⟩
@[irreducible] def oV(i:Nat):Nat:=iX.cps.toList.getD i 0
def EG{i:Nat}(h:i<26):iX.cps.toList[i]?=wz (oV i):=by
 have a:i<iX.cps.toList.length:=by rw[C3];exact h
 unfold oV;rw[dM,aL a];rfl
def Yj{i:Nat}(h:i<26):oV i∈iX.cps.toList:=aZ (EG h)
noncomputable def KC(z:â)(t k c:Nat):Str:=Txt.slice z wy (wz (t:Int))++⟨#[c]⟩++Txt.slice z (wz ((t:Int)+1)) (wz (k:Int))
def uJ(z:â)(t k c:Nat):(KC z t k c).cps.toList=z.cps.toList.take t++(c::(z.cps.toList.drop (t+1)).take (k-(t+1))):=by
 unfold KC;rw[lY,lY,vX,vX];have a:(t:Int)+1=((t+1:Nat):Int):=by lia
 rw[a,Hn,pQ];simp
def ZU{z:â}(l:z.cps.toList.length=8)(a:∀c∈z.cps.toList,c∈iX.cps.toList){k m:Nat}(o:1<=k)(g:k+m<=9):L8 m ((gA m).map λj:Nat=>Txt.slice z wy (wz ((k:Int)+(j:Int)))):=by
 have e:∀j:Nat,(Txt.slice z wy (wz ((k:Int)+(j:Int)))).cps.toList=z.cps.toList.take (k+j):=λj=>by
  rw[vX];exact pQ _ (k+j)
 refine FN _ (λi f=>?_) λi j f n h=>?_
 ·refine ZV ?_ ?_ λc d=>?_
  ·rw[e,bH];lia
  ·rw[e,bH];lia
  ·rw[e]at d;exact a c (dX d)
 ·have b:=e i;rw[h,e j]at b;have:=d8 iT b;rw[bH,bH]at this;lia
def VA{z:â}(l:z.cps.toList.length=8)(a:∀c∈z.cps.toList,c∈iX.cps.toList){k t s m:Nat}(o:k<=8)(q:t<k)(p:m<=26):L8 m ((gA m).map λj:Nat=>KC z t k (oV ((s+j)%26))):=by
 refine FN _ (λi g=>?_) λi j g n h=>?_
 ·have e:=uJ z t k (oV ((s+i)%26));refine ZV ?_ ?_ λc hc=>?_
  ·rw[e,aR,bD];lia
  ·rw[e,aR,bD,bH,bH,dF];lia
  ·rw[e]at hc;rcases bM.mp hc with hc | hc
   ·exact a c (dX hc)
   ·rcases aQ.mp hc with rfl | hc
    ·exact Yj (CO _ cS)
    ·exact a c (qV (dX hc))
 ·have b:=uJ z t k (oV ((s+i)%26));rw[h,uJ]at b;have f:=(l4 (OR b)).1;have d:=EG (i:=(s+j)%26) (CO _ cS);rw[f]at d;have:=Zj QG (EG (i:=(s+i)%26) (CO _ cS)) d;lia
def O5(z:â)(a:z.cps.toList.length=8)(t k c:Nat):(Txt.slice z wy (wz (t:Int))).length+1<=100000/\(Txt.slice z wy (wz (t:Int))++(⟨#[c]⟩:â)).length+(Txt.slice z (wz ((t:Int)+1)) (wz (k:Int))).length<=100000:=by
 have b:=Txt.slice_le z wy (wz (t:Int));have a2:=Txt.slice_le z (wz ((t:Int)+1)) (wz (k:Int));have d:z.length=z.cps.toList.length:=by simp[o4]
 have a4:(Txt.slice z wy (wz (t:Int))++(⟨#[c]⟩:â)).length=(Txt.slice z wy (wz (t:Int))).length+1:=by
  show((Txt.slice z wy (wz (t:Int))).cps++#[_]).size=_;rw[CP];rfl
 rw[a4];lia
noncomputable def OV(f:â×List â)(d:D):Bool:=match d with | .none=>wx | .str z=>decide (z∈f.2) | _=>ww
noncomputable def yI(an:List â)(d:D):Bool:=match d with | .str z=>decide (z∈an) | _=>ww
structure Cd(d:D):Prop where
 lay:d.canLay0=wx
 dep:d.depth<=60
structure Th(n m:Nat)(d:D):Prop where
 bulk:d.bulk<=n
 fit:d.leavesShort 110=wx
 shw:d.showable=wx
 nodict:d.hasDict=ww
 depth:d.depth<=m
 lay:d.canLay0=wx
theorem yY{n m:Nat}:∀{b:List D},(∀t∈b,Th n m t)->xQ b<=b.length*(n+1)/\OQ 110 b=wx/\UF b=wx/\mN b=ww/\eP b<=m/\eA b=wx
|[],_=>⟨dA _,gL,gL,gL,dA _,gL⟩
|t::b,h=>by
 have a:=h t (aM ..);obtain⟨j,c,d,e,f,g⟩:=yY λx i=>h x (aE _ i);refine⟨?_,?_,?_,?_,?_,?_⟩
 ·show t.bulk+1+xQ b<=(b.length+1)*(n+1);have:=a.bulk;lia
 ·show(t.leavesShort 110&&OQ 110 b)=wx;rw[a.fit,c];rfl
 ·show(t.showable&&UF b)=wx;rw[a.shw,d];rfl
 ·show(t.hasDict||mN b)=ww;rw[a.nodict,e];rfl
 ·exact Nat.max_le.mpr ⟨a.depth,f⟩
 ·show(t.canLay0&&eA b)=wx;rw[a.lay,g];rfl
def BS(n m k:Nat){N M:Nat}{a:List D}(h:∀t∈a,Th n m t)(f:a.length<=k)(l:k*(n+1)<=N)(j:m+1<=M):Th N M (.tuple a):=by
 refine Ò (yY h) λg b c d i e=>?_;have:a.length*(n+1)<=k*(n+1):=zU _ f;exact⟨by show xQ a<=N;lia,b,c,d,by show eP a+1<=M;lia,e⟩
def XQ(n m k:Nat){N M:Nat}{a:List D}(h:∀t∈a,Th n m t)(f:a.length<=k)(l:k*(n+1)<=N)(j:m+1<=M):Th N M (.list a):=by
 refine Ò (yY h) λg b c d i e=>?_;have:a.length*(n+1)<=k*(n+1):=zU _ f;exact⟨by show xQ a<=N;lia,b,c,d,by show eP a+1<=M;lia,e⟩
def KD{n m:Nat}:Th n m .none:=⟨dA _,gL,gL,gL,dA _,gL⟩
def CU{z:â}(b:∀c∈z.cps.toList,c<1000):aIf z=true:=by
 unfold aIf;rw[<- aCe,gG];grind
def Xn{n m:Nat}{z:â}(h:z.length<=n)(a:∀c∈z.cps.toList,c<1000):Th n m (.str z):=by
 refine⟨h,?_,gL,gL,dA _,CU a⟩;show(z.cps.toList.all λc=>decide (c<16^8))=wx;grind
def VJ{c:Nat}(h:c∈iX.cps.toList):c<128:=by
 have:∀c∈iX.cps.toList,c<128:=by decide +kernel
 exact this c h
def AS{y:â}(h:tR y=wx):y.length<=8/\∀c∈y.cps.toList,c<128:=⟨(AU h).2.1,λc a=>VJ ((AU h).2.2 c a)⟩
def kM(h:tR y=wx){n m:Nat}(b:8<=n):Th n m (.str y):=Xn (bK (AS h).1 b) λc a=>by have:=(AS h).2 c a;lia
def D2{a:List â}(h:∀y∈a,tR y=wx){n m:Nat}(b:8<=n):∀t∈a.map aI,Th n m t:=λt c=>by
 refine Â (aS.mp c) λy d z=>?_;subst z;exact kM (h y d) b
def BH{n m:Nat}:∀t∈([]:List D),Th n m t:=λt h=>by simp at h
def all_cons{n m:Nat}(h:Th n m a)(b:∀t∈ts,Th n m t):∀t∈a::ts,Th n m t:=λt ht=>by
 grind
def Yf{n m:Nat}{a bs:List D}(h:∀t∈a,Th n m t)(b:∀t∈bs,Th n m t):∀t∈a++bs,Th n m t:=λt c=>(bM.mp c).elim (h t) (b t)
def T3{c:Type}(a:List c)(lo b:Option Int):(fY a lo b).length<=a.length:=by
 unfold fY;rw[bH,dF];lia
def Th.cd{n m:Nat}(h:Th n m d)(a:m<=60):Cd d:=⟨h.lay,bK h.depth a⟩
theorem S4:∀{ts}{t:D},eA ts=wx->t∈ts->t.canLay0=wx
|a::r,t,h,hm=>by
 have b:(a.canLay0&&eA r)=true:=h;rw[dH]at b;rcases aQ.mp hm with rfl | hm
 ·exact b.1
 ·exact S4 b.2 hm
theorem JQ:∀{ts}{t:D},t∈ts->t.depth<=eP ts
|a::r,t,hm=>by
 rcases aQ.mp hm with rfl | hm
 ·exact sB _ _
 ·exact bK (JQ hm) (qU _ _)
def Cd.item(h:Cd (.tuple ts))(a:t∈ts):Cd t:=⟨S4 h.lay a,by
 have b:eP ts+1<=60:=h.dep;have:=JQ a;lia⟩
section
variable{fs:Fs}{an:List â}
def eW.name(F:eW fs an){f:â×List â}(h:f∈fs):tR f.1=true:=F.nd.2.1 _ (aS.mpr ⟨f,h,gL⟩)
def eW.vals(F:eW fs an){f:â×List â}(h:f∈fs):∀y∈f.2,tR y=true:=(F.vs f h).2.2.2.1
end
def GA{Q:D->Prop}(a:FK x (.tuple ts))(b:Q (.bool (OW x (.tuple ts)))):Cp x (.tuple ts) Q:=by
 cases x<;>exact⟨a,b⟩
def BG(d:D)(a:List â):((a.map aI).any λz=>dW z d)=yI a d:=by
 induction a with
 |nil=>cases d<;>rfl
 |cons y a b=>
  rw[aX,kP,b]
  cases d with
  |str z=>
   show((y==z)||decide (z∈a))=decide (z∈y::a);grind
  |_=>rfl
def QP(f:â×List â)(d:D):OW d (.tuple (f.2.map aI++[.none]))=OV f d:=by
 show((f.2.map aI++[DW]).any λz=>dW z d)=OV f d;rw[aF5,BG];cases d<;>simp[yI,OV,dW]
def K7{a:List â}(h:∀y∈a,tR y=wx)(hd:Cd d):FK d (.tuple (a.map aI)):=by
 refine Ò (yY (D2 h (aP 8) (m:=0))) λ_ _ _ _ c b=>?_;exact⟨b,hd.lay,by lia⟩
def FJ{a:List â}(h:∀y∈a,tR y=wx){d:D}(hd:Cd d):FK d (.tuple (a.map aI++[.none])):=by
 refine Ò (yY (Yf (D2 h (aP 8) (m:=0)) (all_cons KD BH))) λ_ _ _ _ c b=>?_;exact⟨b,hd.lay,by lia⟩
theorem LK:∀{a:List â}{z}{m:Nat},m<a.idxOf z->a[m]?≠wz z
|[],z,m,h=>by simp at h
|y::a,z,m,h=>by
 rw[List.idxOf_cons]at h;by_cases e:y=z
 ·subst e;simp at h
 ·have b:(y==z)=false:=by simpa using e
  rw[b]at h;simp only[cond_false]at h
  cases m with
  |zero=>simpa using e
  |succ m=>
   rw[List.getElem?_cons_succ];exact LK eH
noncomputable def fT(fs:Fs)(d:D):Bool:=match d with | .tuple ts=>decide (ts.length=fs.length)&&(fs.zip ts).all (λp=>OV p.1 p.2) | _=>ww
section
variable{fs:Fs}{an:List â}
def mT{a:List D}(h:fT fs (.tuple a)=wx):a.length=fs.length/\∀(k:Nat) f c,fs[k]?=wz f->a[k]?=wz c->OV f c=true:=by
 unfold fT at h;simp only[dH,c8,gG]at h;refine⟨h.1,λk f c b d=>?_⟩;exact h.2 (f,c) (aZ ((kF).mpr ⟨b,d⟩))
def GL(F:eW fs an)(h:fT fs (.tuple cs)=wx){n m:Nat}(f:8<=n):∀c∈cs,Th n m c:=λc d=>by
 obtain⟨e,g⟩:=mT h;obtain⟨k,b⟩:=dG d;have a:k<fs.length:=by rw[<- e];exact(aJ.mp b).1
 have:=g k fs[k] c (aL a) b
 cases c with
 |none=>exact KD
 |str z=>exact kM (F.vals (iY a) z (c6 this)) f
 |_=>cases this
end
noncomputable def eJ(r:List D×â):D:=.tuple [.tuple r.1,.str r.2]
def kJ(fs:Fs)(an:List â)(r:List D×â):Prop:=fT fs (.tuple r.1)=wx/\r.2∈an
def iD(fs:Fs)(an:List â)(rs:List (List D×â)):Prop:=∀r∈rs,kJ fs an r
def XO{fs}(F:eW fs an)(h:kJ fs an r):Th 92 2 (eJ r):=by
 exact BS 45 1 2 (all_cons (BS 8 0 5 (GL F h.1 (aP 8)) (by rw[(mT h.1).1];exact F.n5) cS cS) (all_cons (kM (F.an.2.1 _ h.2) cS) BH)) gJ cS cS
def Lg{fs}(F:eW fs an){rs:List (List D×â)}(h:iD fs an rs)(a:rs.length<=60):Th 6000 3 (.list (rs.map eJ)):=
 XQ 92 2 60 (λt c=>by
  refine Â (aS.mp c) λr b z=>?_;subst z;exact XO F (h r b)) (by rw[aC];exact a) cS cS
noncomputable def xm(f:â×List â)(k v:D):Bool:=match k,v with
|.str kk,.str z=>decide (z∈f.2)&&(decide (kk="is")||(decide (kk="upto")&&decide (f.2.idxOf z+1<f.2.length)))
|_,_=>ww
noncomputable def zx(n:D)(f:â×List â):Bool:=match n with | .str z=>decide (f.1=z) | _=>ww
noncomputable def WQ(fs:Fs)(d:D):Bool:=match d with
|.tuple [k,n,v]=>fs.any λf=>zx n f&&xm f k v
|_=>ww
noncomputable def rA(k:â)(f:â×List â)(z:â):D:=.tuple [.str k,.str f.1,.str z]
noncomputable def G8(f:â×List â):List Str:=if f.2.length=2 then f.2.take 1 else f.2
noncomputable def zI(f:â×List â):List Str:=(f.2.drop 1).take (f.2.length-3)
noncomputable def OU(f:â×List â):List D:=(G8 f).map (rA "is" f)++(zI f).map (rA "upto" f)
noncomputable def iH(fs:Fs):List D:=(fs.map OU).flatten
def Rq:WT:=λa Q=>∃fs an,a=[gM fs an]/\eW fs an/\Q (iH fs)
def Hu{a:List â}{j:Nat}(h:a[j]?=wz z):a.idxOf z<=j:=by
 by_cases q:a.idxOf z<=j
 ·exact q
 ·exact b9 h (LK eH)
def Z4{f:â×List â}(h:z∈zI f):z∈f.2/\f.2.idxOf z+1<f.2.length:=by
 unfold zI at h;refine⟨(qV (dX h)),?_⟩;obtain⟨i,a⟩:=dG h;have b:=(aJ.mp a).1;rw[bH,dF]at b;rw[oK,b7 eH,lZ]at a;have:=Hu a;omega
def Hw{fs k}(a:f∈fs)(h:xm f (.str k) (.str z)=wx):WQ fs (rA k f z)=true:=by
 show(fs.any λg=>zx (.str f.1) g&&xm g (.str k) (.str z))=wx;rw[vK];refine⟨f,a,?_⟩;show(decide (f.1=f.1)&&xm f (.str k) (.str z))=wx;lia
def GJ{fs}(h:d∈iH fs):∃f∈fs,(∃z∈f.2,d=rA "is" f z)\/(∃z,z∈f.2/\f.2.idxOf z+1<f.2.length/\d=rA "upto" f z):=by
 refine Â (List.mem_flatten.mp h) λl c hd=>?_;refine Â (aS.mp c) λf b y=>?_;subst y;refine⟨f,b,?_⟩;rcases bM.mp hd with q | q
 ·refine Â (aS.mp q) λz a y=>?_;subst y;refine .inl ⟨z,?_,gL⟩;unfold G8 at a;grind
 ·refine Â (aS.mp q) λz a y=>?_;subst y;exact .inr ⟨z,(Z4 a).1,(Z4 a).2,gL⟩
def Q1{fs}(h:d∈iH fs):WQ fs d=true:=by
 obtain⟨f,b,⟨z,a,rfl⟩ | ⟨z,a,c,rfl⟩⟩:=GJ h
 ·refine Hw b ?_;show(decide (z∈f.2)&&(decide (("is":â)="is")||_))=wx;lia
 ·refine Hw b ?_;show(decide (z∈f.2)&&(decide (("upto":â)="is")||(decide (("upto":â)="upto")&&decide (f.2.idxOf z+1<f.2.length))))=wx;lia
def Ei:tR "is"=true:=by decide +kernel
def SW:tR "upto"=true:=by decide +kernel
def Xl{fs}(F:eW fs an){k}(b:tR k=wx){f:â×List â}(a:f∈fs)(c:z∈f.2):Th 27 1 (rA k f z):=
 BS 8 0 3 (all_cons (kM b (aP _)) (all_cons (kM (F.name a) (aP _)) (all_cons (kM (F.vals a z c) (aP _)) BH))) gJ cS cS
theorem nV{fs}(F:eW fs an):∀a,(∀g∈a,g∈fs)->(iH a).length<=10*a.length
|[],_=>aP _
|g::a,h=>by
 have d:=nV F a λx b=>h x (aE _ b);obtain⟨_,e,_⟩:=F.vs g (h g (aM ..));show((OU g::a.map OU).flatten).length<=_;rw[aB8,aR]
 have c:(OU g).length<=10:=by
  unfold OU G8 zI;rw[aR,aC,aC,bH,dF];split
  ·rw[bH];lia
  ·lia
 have:(iH a).length=((a.map OU).flatten).length:=rfl;rw[bD];lia
def tQ{c:List â}(e:∀y∈c,tR y=wx)(f:z∈c):U7 (c.map aI) (.str z) (c.idxOf z):=by
 have b:=kO.mpr f;refine Ò (yY (D2 e (aP 8) (m:=0))) λ_ _ _ _ i g=>?_;refine⟨g,(kM (e z f) (aP 8) (m:=0)).lay,eH,⟨.str z,?_,?_⟩,λm t h a=>?_⟩
 ·rw[aO,aL b,oJ b];rfl
 ·show(z==z)=wx;simp
 ·rw[aO]at a
  cases d:c[m]? with
  |none=>rw[d]at a;cases a
  |some y=>
   rw[d]at a;cases a;show(y==z)=ww
   have:y≠z:=λq=>by
    subst q;exact LK h d
   simpa using this
inductive Tr | say (a:â) | ask (k n v s:â) (y m:Tr)
noncomputable def jX:Tr->D
|.say a=>.tuple [.str "say",.str a]
|.ask k n v s y m=>.tuple [.str "ask",.tuple [.str k,.str n,.str v],.str s,jX y,jX m]
noncomputable def Tr.dep:Tr->Nat
|.say _=>0
|.ask _ _ _ _ y m=>max y.dep m.dep+1
noncomputable def Tr.kn:Tr->Nat
|.say _=>0
|.ask _ _ _ _ y m=>y.kn+m.kn+1
def oF(fs:Fs)(an:List â):Tr->Prop
|.say a=>a∈an
|.ask k n v s y m=>WQ fs (.tuple [.str k,.str n,.str v])=wx/\(s="yes"\/s="no")/\oF fs an y/\oF fs an m
def A3{fs}{k n v:â}(h:WQ fs (.tuple [.str k,.str n,.str v])=wx):∃f∈fs,f.1=n/\v∈f.2/\(k="is"\/(k="upto"/\f.2.idxOf v+1<f.2.length)):=by
 refine Â (vK.mp (h:(fs.any λf=>zx (.str n) f&&xm f (.str k) (.str v))=wx)) λf c b=>?_;rw[dH]at b;have a:(decide (v∈f.2)&&(decide (k="is")||(decide (k="upto")&&decide (f.2.idxOf v+1<f.2.length))))=true:=b.2;simp only[dH,oI,c8]at a;exact⟨f,c,c6 b.1,a.1,a.2⟩
def FO:tR "yes"=true:=by decide +kernel
def NK:tR "no"=true:=by decide +kernel
def Cw:tR "say"=true:=by decide +kernel
def P6:tR "ask"=true:=by decide +kernel
def Dl{fs}(F:eW fs an){k}(h:WQ fs (.tuple [.str k,.str n,.str v])=wx):Th 27 1 (.tuple [.str k,.str n,.str v]):=by
 refine Ó (A3 h) λf a z c b=>?_;subst z;refine Xl F ?_ a c;rcases b with rfl | ⟨rfl,_⟩
 ·exact Ei
 ·exact SW
theorem XR{fs}(F:eW fs an):∀t,oF fs an t->Th (68*t.kn+18) (t.dep+1) (jX t)
|.say a,h=>BS 8 0 2 (all_cons (kM Cw (aP _)) (all_cons (kM (F.an.2.1 a h) (aP _)) BH)) gJ (by lia) (aP _)
|.ask k n v s y m,h=>by
 obtain⟨p,r,u,o⟩:=h;have d:=XR F y u;have c:=XR F m o;have q:=Dl F p
 have w:tR s=true:=by
  rcases r with rfl | rfl
  ·exact FO
  ·exact NK
 have e:=kM w (m:=0) (aP _);have b:=kM P6 (m:=0) (aP _);have j:PyData.bulk (jX (.ask k n v s y m))=(aI "ask").bulk+1+((gX [.str k,.str n,.str v]).bulk+1+((aI s).bulk+1+((jX y).bulk+1+((jX m).bulk+1+0)))):=rfl;have l:PyData.depth (jX (.ask k n v s y m))=max (aI "ask").depth (max (gX [.str k,.str n,.str v]).depth (max (aI s).depth (max (jX y).depth (max (jX m).depth 0))))+1:=rfl;refine⟨?_,?_,?_,?_,?_,?_⟩
 ·rw[j];have f:=d.bulk;have a2:=c.bulk;have g:=q.bulk;have a4:=e.bulk;have i:=b.bulk;show _<=68*(y.kn+m.kn+1)+18;lia
 ·show((aI "ask").leavesShort 110&&((gX [.str k,.str n,.str v]).leavesShort 110&&((aI s).leavesShort 110&&((jX y).leavesShort 110&&((jX m).leavesShort 110&&wx)))))=wx;rw[b.fit,q.fit,e.fit,d.fit,c.fit];rfl
 ·show((aI "ask").showable&&((gX [.str k,.str n,.str v]).showable&&((aI s).showable&&((jX y).showable&&((jX m).showable&&wx)))))=wx;rw[b.shw,q.shw,e.shw,d.shw,c.shw];rfl
 ·show((aI "ask").hasDict||((gX [.str k,.str n,.str v]).hasDict||((aI s).hasDict||((jX y).hasDict||((jX m).hasDict||false)))))=ww;rw[b.nodict,q.nodict,e.nodict,d.nodict,c.nodict];rfl
 ·rw[l];have f:=d.depth;have a2:=c.depth;have g:=q.depth;have a4:=e.depth;have i:=b.depth;show _<=max y.dep m.dep+1+1;lia
 ·show((aI "ask").canLay0&&((gX [.str k,.str n,.str v]).canLay0&&((aI s).canLay0&&((jX y).canLay0&&((jX m).canLay0&&wx)))))=wx;rw[b.lay,q.lay,e.lay,d.lay,c.lay];rfl
theorem Tr.kn_dep:∀t:Tr,t.kn<2^t.dep
|.say _=>by show 0<2^0;decide
|.ask _ _ _ _ y m=>by
 have:=kn_dep y;have:=kn_dep m;show y.kn+m.kn+1<2^(max y.dep m.dep+1);have a:2^y.dep<=2^(max y.dep m.dep):=fH cS (sB ..);have b:2^m.dep<=2^(max y.dep m.dep):=fH cS (qU ..);rw[RI];lia
def BV{c:yN}(P:Nat->List Sl->Prop)(e:Nat)(f:P e σ)
  (h:∀n a,P n a->∃b,(∀q,q b->c a q)/\(if b=wx then tb { DT with nx:=λd=>∃m,m<n/\P m d,ct:=λd=>∃m,m<n/\P m d,bk:=u DT } a else u DT a)):qO (X9 c tb) u DT σ:=
 ⟨P,⟨e,f⟩,λn a g=>by obtain⟨_,h1,h2⟩:=h n a g;exact h1 _ h2⟩
def xH{e:Type}(b:List e):b=[]\/∃c w,b=c++[w]:=by
 induction b with
 |nil=>exact .inl gL
 |cons a b d=>
  rcases d with rfl | ⟨c,w,rfl⟩
  ·exact .inr ⟨[],a,gL⟩
  ·exact .inr ⟨a::c,w,gL⟩
def Ym(a:List â)(h:2<=a.length):fY a (wz 1) (wz (-2))=(a.drop 1).take (a.length-3):=by
 unfold fY
 have b:HT.sIx a.length 0 (wz 1)=1:=by
  show(if(1:Int)<0 then((1:Int)+(a.length:Int)).toNat else min (1:Int).toNat a.length)=_;rw[a8 cS];lia
 have c:HT.sIx a.length a.length (wz (-2))=a.length-2:=by
  show(if(-2:Int)<0 then((-2:Int)+(a.length:Int)).toNat else min (-2:Int).toNat a.length)=_;rw[b7 cS];lia
 rw[b,c];congr 1
def Yn(a:List â)(h:2<=a.length):fY a wy (wz 1)=a.take 1:=pQ a 1
def Rr:WT:=λa Q=>∃f,a=[qE f]/\2<=f.2.length/\f.2.length<=5/\Q (OU f)
abbrev Rw:=List D×â
noncomputable def CI(rs:List Rw)(a:â):Nat:=rs.countP λr=>decide (r.2=a)
noncomputable def jU(an:List â)(rs:List Rw):List Int:=an.map λa=>(CI rs a:Int)
noncomputable def GZ(ss rs:List Rw):Nat:=(ss.map λr=>rs.countP λo=>decide (o.2≠r.2)).sum
noncomputable def Z9(a b:Nat):D:=.tuple [.int ((a / a.gcd b:Nat):Int),.int ((b / a.gcd b:Nat):Int)]
def GU(an:List â)(rs:List Rw)(a:â):Prop:=∃k,an[k]?=wz a/\(∀(j:Nat) b,an[j]?=wz b->CI rs b<=CI rs a)/\∀(j:Nat) b,j<k->an[j]?=wz b->CI rs b<CI rs a
def Gg:mO:=λc Q=>∃a b:Nat,c=[.int a,.int b]/\0<b/\a<2^190/\b<2^190/\Q (Z9 a b)
def Ri:WT:=λa Q=>∃fs an rs,a=[gM fs an,.list (rs.map eJ)]/\eW fs an/\iD fs an rs/\rs.length<=60/\Q ((jU an rs).map bW)
def Rj:mO:=λb Q=>∃fs an rs,b=[gM fs an,.list (rs.map eJ)]/\eW fs an/\iD fs an rs/\rs.length<=60/\∀a,GU an rs a->Q (.str a)
def Rk:mO:=λa Q=>∃fs an rs,a=[gM fs an,.list (rs.map eJ)]/\eW fs an/\iD fs an rs/\rs.length<=60/\Q (Z9 (GZ rs rs) (max 1 rs.length))
theorem PQ:∀ss rs,GZ ss rs<=ss.length*rs.length
|[],rs=>by show 0<=_;lia
|s::ss,rs=>by
 have:=PQ ss rs;have a:rs.countP (λo=>decide (o.2≠s.2))<=rs.length:=RJ;show rs.countP (λo=>decide (o.2≠s.2))+GZ ss rs<=(ss.length+1)*rs.length;lia
def Hm(rs:List Rw)(a:â):CI rs a<=rs.length:=RJ
theorem F9{a:Type}[DecidableEq a]:∀(l:List a)(x:a),x∈l->∃k,l[k]?=wz x/\∀j:Nat,j<k->l[j]?≠wz x
|y::l,x,h=>by
 by_cases e:y=x
 ·exact⟨0,by rw[e];rfl,λj d=>by lia⟩
 ·obtain⟨k,b,c⟩:=F9 l x ((aQ.mp h).resolve_left λz=>e z.symm);refine⟨k+1,b,λj d=>?_⟩
  cases j with
  |zero=>exactλz=>e (c7 z)
  |succ j=>exact c j eH
noncomputable def KL(f:â×List â)(k v st:â)(c:D):Str:=match c with
|.none=>st
|.str z=>if k="is" then(if z=v then "yes" else "no")else if f.2.idxOf z<=f.2.idxOf v then "yes" else "no"
|_=>""
noncomputable def eD(fs:Fs)(k n v st:â)(a:List D):Str:=match fs[(fs.map (·.1)).idxOf n]?,a[(fs.map (·.1)).idxOf n]? with
|some f,wz c=>KL f k v st c
|_,_=>""
def Rt:mO:=λb Q=>∃fs an k n v st a,b=[gM fs an,.tuple [.str k,.str n,.str v],.str st,.tuple a]/\eW fs an/\WQ fs (.tuple [.str k,.str n,.str v])=wx/\(st="yes"\/st="no")/\fT fs (.tuple a)=wx/\Q (.str (eD fs k n v st a))
noncomputable def wB(fs:Fs)(k n v st:â)(rs:List (List D×â))(w:â)(x:D):Bool:=match x with
|.int i=>match L2.atI rs i with | some r=>decide (eD fs k n v st r.1=w) | none=>ww
|_=>ww
noncomputable def mC(fs:Fs)(k n v st:â)(rs:List (List D×â))(w:â):List D:=(fA rs.length).filter (wB fs k n v st rs w)
def Ry:xx:=λa Q=>∃fs an k n v st rs,a=[gM fs an,.tuple [.str k,.str n,.str v],.str st,.list (rs.map eJ)]/\eW fs an/\WQ fs (.tuple [.str k,.str n,.str v])=wx/\(st="yes"\/st="no")/\iD fs an rs/\rs.length<=60/\Q (mC fs k n v st rs "yes") (mC fs k n v st rs "no")
def EB{fs:Fs}(F:eW fs an){j:Nat}{f:â×List â}(h:fs[j]?=wz f):(fs.map (·.1)).idxOf f.1=j:=by
 have a:(fs.map (·.1)).idxOf f.1<(fs.map (·.1)).length:=kO.mpr (aS.mpr ⟨f,aZ h,gL⟩);have b:(fs.map (·.1))[(fs.map (·.1)).idxOf f.1]?=wz f.1:=by rw[aL a,oJ a]
 have c:(fs.map (·.1))[j]?=wz f.1:=by rw[aO,h];rfl
 exact(List.getElem?_inj a F.nd.2.2).mp (b.trans c.symm)
def E3{fs}(F:eW fs an){k st}{j:Nat}{f:â×List â}(a:fs[j]?=wz f)(b:cs[j]?=wz c)(d:f.1=n):eD fs k n v st cs=KL f k v st c:=by
 subst d;unfold eD;rw[EB F a,a,b]
noncomputable def Bz(fs:Fs)(k n v st:â)(x:D):D:=match x with | .tuple [.tuple cs,_]=>.str (eD fs k n v st cs) | _=>.none
def NE{d:ET}{c:DB}{b:List Sl}{i:Nat}{a us:List D}(e:b[i]?=wz (.own a))(f:a.length+us.length<=100000)(h:∀q,q (.list us)->d b q)(k:c.nx (b.set i (.own (a++us)))):Ga i d c b:=⟨a,e,h _ ⟨us,gL,f,k⟩⟩
def U6{fs k st rs}{j:Nat}{r:List D×â}(h:rs[j]?=wz r):wB fs k n v st rs w (.int (j:Int))=decide (eD fs k n v st r.1=w):=by
 show(match L2.atI rs (j:Int)with | some r=>decide (eD fs k n v st r.1=w) | none=>ww)=_;rw[L2.eR h]
noncomputable def F5(k v:â)(f:â×List â):List Str:=if k="is" then[v]else f.2.take (f.2.idxOf v+1)
def Rx:mO:=λa Q=>∃k n v f,a=[.tuple [.str k,.str n,.str v],qE f]/\(∀y∈f.2,tR y=wx)/\v∈f.2/\f.2.length<=5/\Q (.tuple ((F5 k v f).map aI))
def VS{f:â×List â}{k v st z:â}(g:z∈f.2):(if yI (F5 k v f) (.str z)=wx then("yes":â)else "no")=KL f k v st (.str z):=by
 show(if decide (z∈F5 k v f)=wx then("yes":â)else "no")=if k="is" then(if z=v then("yes":â)else "no")else if f.2.idxOf z<=f.2.idxOf v then("yes":â)else "no";unfold F5;by_cases b:k="is"
 ·rw[b7 b,b7 b];by_cases e:z=v
  ·rw[b7 e,b7 (a9 (aU.mpr e))]
  ·rw[a8 e,a8 (λq=>e (aU.mp (c6 q)))]
 ·rw[a8 b,a8 b];have c:=kO.mpr g;by_cases e:f.2.idxOf z<=f.2.idxOf v
  ·rw[b7 e,b7];refine a9 (aZ (i:=f.2.idxOf z) ?_);rw[oK,b7 eH,aL c,oJ c]
  ·rw[a8 e,a8];intro q;obtain⟨i,a⟩:=dG (c6 q);have d:=(aJ.mp a).1;rw[bH]at d;rw[oK,b7 eH]at a;have:=Hu a;lia
def NX{f:â×List â}{k}(a:v∈f.2)(h:y∈F5 k v f):y∈f.2:=by
 unfold F5 at h;grind
noncomputable def yE(k v st:â)(f:â×List â):List D:=(F5 k v f).map aI++(if st="yes" then[DW]else[])
def Rv:mO:=λa Q=>∃k n v st f,a=[.tuple [.str k,.str n,.str v],.str st,qE f]/\(∀y∈f.2,tR y=wx)/\v∈f.2/\f.2.length<=5/\Q (.tuple (yE k v st f))
def Ru:mO:=λa Q=>∃(fs:Fs)(an:List â)(k n v:â)(f:â×List â)(j:Nat),a=[gM fs an,.tuple [.str k,.str n,.str v]]/\eW fs an/\fs[j]?=wz f/\f.1=n/\Q (.int (j:Int))
def aAw{k}{f:â×List â}(h:f.2.length<=5):(F5 k v f).length<=5:=by
 unfold F5;grind
def aAs{k v st:â}(a:st="yes"\/st="no")(b:OV f c=wx):(if OW c (.tuple (yE k v st f))=wx then("yes":â)else "no")=KL f k v st c:=by
 have e:OW c (.tuple (yE k v st f))=(yI (F5 k v f) c||((if st="yes" then[DW]else[]).any λz=>dW z c)):=by
  show((yE k v st f).any λz=>dW z c)=_;unfold yE;rw[aF5,BG]
 cases c with
 |none=>
  rw[e];rcases a with rfl | rfl<;>rfl
 |str z=>
  have d:((if st="yes" then[DW]else[]).any λx=>dW x (.str z))=false:=by
   rcases a with rfl | rfl<;>rfl
  rw[e,d,aL0];exact VS (c6 b)
 |_=>cases b
def ZE{k st}{f:â×List â}(b:∀y∈f.2,tR y=wx)(c:v∈f.2)(hd:Cd d):FK d (.tuple (yE k v st f)):=by
 unfold yE;split
 ·exact FJ (λy a=>b y (NX c a)) hd
 ·rw[cM];exact K7 (λy a=>b y (NX c a)) hd
noncomputable def yk(w:â)(x:D):Bool:=match x with | .tuple [_,.str s]=>decide (s=w) | _=>ww
noncomputable def yu(ss:List â)(w:â)(x:D):Bool:=match x with | .int i=>(match L2.atI ss i with | some s=>decide (s=w) | none=>ww) | _=>ww
noncomputable def Ab(ss:List â)(x:D):D:=match x with | .int i=>(match L2.atI ss i with | some s=>.str s | none=>.none) | _=>.none
noncomputable def An(x:D):D:=match x with | .tuple [a,_]=>a | _=>x
def JN(ss:List â):GG (ss.map aI)=(fA ss.length).map λx=>.tuple [x,Ab ss x]:=by
 apply kK;intro i
 cases h:ss[i]? with
 |none=>
  have a:=tJ.mp h;rw[eM (by rw[tV,aC];exact a),eM (by rw[aC,kG];exact a)]
 |some s=>
  rw[CG (by rw[aO,h];rfl),aO];unfold fA;rw[aO,lF ((aJ.mp h).1)];show _=wz (gX [.int (i:Int),match L2.atI ss (i:Int)with | some s=>.str s | none=>.none]);rw[L2.eR h]
def N1(ss:List â)(w:â):((GG (ss.map aI)).filter (yk w)).map An=(fA ss.length).filter (yu ss w):=by
 rw[JN,wV,bJ];have a:(An∘λx=>gX [x,Ab ss x])=id:=rfl
 have b:(yk w∘λx=>gX [x,Ab ss x])=yu ss w:=by
  funext x
  cases x with
  |int i=>
   show yk w (.tuple [.int i,(match L2.atI ss i with | some s=>aI s | none=>.none)])=(match L2.atI ss i with | some s=>decide (s=w) | none=>ww);cases L2.atI ss i<;>rfl
  |_=>rfl
 rw[a,b,yT]
def Rz:WT:=λa Q=>∃w ss,a=[.str w,.list (ss.map aI)]/\ss.length<=60/\Q ((fA ss.length).filter (yu ss w))
def RZ{fs k st}{rs:List (List D×â)}(w:â):(fA (rs.map λr=>eD fs k n v st r.1).length).filter (yu (rs.map λr=>eD fs k n v st r.1) w)=mC fs k n v st rs w:=by
 rw[aC];apply uD;intro x d;obtain⟨j,c⟩:=dG d;obtain⟨a,rfl⟩:=uW c;have b:=aL a;rw[U6 b];show(match L2.atI (rs.map λr=>eD fs k n v st r.1) (j:Int)with | some s=>decide (s=w) | none=>ww)=_;rw[L2.eR (by rw[aO,b];rfl)]
noncomputable def yr(rs:List Rw)(x:D):D:=match x with | .str a=>.int ((CI rs a:Nat):Int) | _=>.none
def O9(rs:List Rw)(a:â):((rs.map λr=>aI r.2).countP λt=>dW t (.str a))=CI rs a:=by
 rw[G3];congr 1
def aAf:∀{a:List â},(∀y∈a,tR y=wx)->eA (a.map aI)=wx/\eP (a.map aI)<=0:=λh=>by
 obtain⟨_,_,_,_,b,c⟩:=yY (D2 h (aP 8));exact⟨c,b⟩
theorem NQ:∀ns:List Int,eA (ns.map bW)=wx/\eP (ns.map bW)=0
|[]=>⟨gL,gL⟩
|n::ns=>by
 have:=NQ ns;refine⟨?_,?_⟩
 ·show(wx&&eA (ns.map bW))=wx;lia
 ·show max 0 (eP (ns.map bW))=0;lia
def IS{ns:List Int}{m:Int}{j:Nat}(h:ns[j]?=wz m)(b:∀i,i<j->ns[i]?≠wz m):U7 (ns.map bW) (.int m) j:=by
 obtain⟨c,d⟩:=NQ ns;refine⟨c,gL,by rw[d];lia,⟨.int m,by rw[aO,h];rfl,?_⟩,λi t f a=>?_⟩
 ·show(m==m)=wx;simp
 ·rw[aO]at a
  cases e:ns[i]? with
  |none=>rw[e]at a;cases a
  |some n=>
   rw[e]at a;cases a;show(n==m)=ww;have:n≠m:=λz=>b i f (by rw[e,z]);simpa using this
def Rl:mO:=λc Q=>∃a b:Nat,c=[.int a,.int b]/\Q (.int ((a.gcd b:Nat):Int))
def aC4{an:List â}(j:an.Nodup)(g:â->Int)(h:b∈an):(an.map λa=>if b=a then g a else 0).sum=g b:=by
 induction an with
 |nil=>simp at h
 |cons a an k=>
  rw[aX,dU];refine Ä (kI.mp j) λf d=>?_;by_cases e:b=a
  ·subst e
   have z:(an.map λa=>if b=a then g a else 0).sum=0:=by
    have:∀l:List â,b∉l->(l.map λa=>if b=a then g a else 0).sum=0:=λl=>by
     induction l with
     |nil=>intro _;rfl
     |cons c l i=>
      intro hb;rw[aX,dU,i λq=>hb (aE _ q),a8 λ(q:b=c)=>hb (by rw[q];exact aM ..)];rfl
    exact this an f
   lia
  grind
def aC5(an:List â)(f g:â->Int):(an.map λa=>f a+g a).sum=(an.map f).sum+(an.map g).sum:=by
 induction an with
 |nil=>rfl
 |cons a an b=>rw[aX,aX,aX,dU,dU,dU,b];lia
theorem EW{an:List â}(d:an.Nodup)(g:â->Int):∀ss,(∀r∈ss,r.2∈an)->(an.map λa=>(CI ss a:Int)*g a).sum=(ss.map λr=>g r.2).sum
|[],_=>by
 have:∀l:List â,(l.map λa=>((CI [] a:Nat):Int)*g a).sum=0:=λl=>by
  induction l with
  |nil=>rfl
  |cons c l b=>
   rw[aX,dU,b];show((0:Nat):Int)*g c+0=0;simp
 grind
|r::ss,h=>by
 have e:(λa=>((CI (r::ss) a:Nat):Int)*g a)=λa=>(if r.2=a then g a else 0)+(CI ss a:Int)*g a:=by
  funext a;unfold CI;rw[EJ];by_cases q:r.2=a
  ·lia
  ·lia
 rw[e,aC5,aC4 d g (h r (aM ..)),(EW d g ss λx f=>h x (aE _ f)),aX,dU]
def U1(rs:List Rw)(a:â):((rs.countP λo=>decide (o.2≠a):Nat):Int)=(rs.length:Int)-(CI rs a:Int):=by
 unfold CI
 have:rs.length=(rs.countP λo=>decide (o.2=a))+(rs.countP λo=>decide (o.2≠a)):=by
  rw[DF (λo:Rw=>decide (o.2=a))];congr 2;funext o;lia
 lia
theorem Z2:∀l:List Nat,((l.sum:Nat):Int)=(l.map λ(n:Nat)=>(n:Int)).sum
|[]=>rfl
|n::l=>by rw[dU,aX,dU,oN,Z2 l]
def SE{an:List â}(b:an.Nodup){rs:List Rw}(h:∀r∈rs,r.2∈an):((jU an rs).map λc=>c*((rs.length:Int)-c)).sum=((GZ rs rs:Nat):Int):=by
 unfold jU GZ;rw[bJ,Z2,bJ];refine(EW b (λa=>(rs.length:Int)-(CI rs a:Int)) rs h).trans ?_;congr 1;apply jS;intro r _;exact(U1 rs r.2).symm
noncomputable def Fh(n:Int)(x:D):D:=match x with | .int c=>.int (c*(n-c)) | _=>.none
noncomputable def za(x:D):D:=match x with | .tuple [_,b]=>b | _=>x
noncomputable def TB:Tr->Bool
|.say _=>wx
|.ask _ _ _ _ _ _=>ww
def Tx:mO:=λa Q=>∃t,a=[jX t]/\Q (.bool (TB t))
noncomputable def kR:Tr->List â
|.say a=>["say",a]
|.ask k n v s y m=>(["ask",n,k,v,s]:List â)++(kR y++kR m)
noncomputable def dO:Str:=" "
noncomputable def jY(t:Tr):Str:=Txt.join dO (kR t)
theorem yV:∀t,(kR t).length=7*t.kn+2
|.say _=>rfl
|.ask k n v s y m=>by
 show((["ask",n,k,v,s]:List â)++(kR y++kR m)).length=7*(y.kn+m.kn+1)+2;rw[aR,aR,yV y,yV m];show 5+_=_;lia
theorem nW{fs}(F:eW fs an):∀t,oF fs an t->∀w∈kR t,tR w=wx
|.say a,h,w,hw=>by
 rcases aQ.mp hw with rfl | hw
 ·exact Cw
 ·rw[aU.mp hw];exact F.an.2.1 a h
|.ask k n v s y m,h,w,hw=>by
 obtain⟨g,i,l,e⟩:=h;obtain⟨f,c,b,j,d⟩:=A3 g;rcases bM.mp hw with hw | hw
 ·simp only[aQ,cP,i6]at hw;rcases hw with rfl | rfl | rfl | rfl | rfl
  ·exact P6
  ·rw[<- b];exact F.name c
  ·rcases d with rfl | ⟨rfl,_⟩
   ·exact Ei
   ·exact SW
  ·exact F.vals c _ j
  ·rcases i with rfl | rfl
   ·exact FO
   ·exact NK
 ·rcases bM.mp hw with hw | hw
  ·exact nW F y l w hw
  ·exact nW F m e w hw
def CQ:∀t,∃w a,kR t=w::a
|.say _=>⟨_,_,gL⟩
|.ask _ _ _ _ _ _=>⟨_,_,gL⟩
theorem F0(c:Nat):∀x b y a,jn c ((x::b)++(y::a))=jn c (x::b)++c::jn c (y::a)
|x,[],y,a=>rfl
|x,z::b,y,a=>by
 show x++c::jn c ((z::b)++(y::a))=(x++c::jn c (z::b))++c::jn c (y::a);rw[F0 c z b y a,fC];rfl
def lI(a:List â):(Txt.join dO a).cps.toList=jn 32 (a.map (·.cps.toList)):=by
 show(u0 dO a).cps.toList=_;rw[l7];exact Za 32 a
def IE(k n v s:â)(y m:Tr):Txt.join dO ["ask",n,k,v,s,jY y,jY m]=jY (.ask k n v s y m):=by
 apply pO;unfold jY;rw[lI,lI];refine À (CQ y) λh a f=>?_;refine À (CQ m) λg b e=>?_
 have c:(["ask",n,k,v,s,Txt.join dO (kR y),Txt.join dO (kR m)]:List â).map (·.cps.toList)=((["ask",n,k,v,s]:List â).map (·.cps.toList))++[jn 32 ((kR y).map (·.cps.toList)),jn 32 ((kR m).map (·.cps.toList))]:=by
  rw[<- lI,<- lI];rfl
 have d:(kR (.ask k n v s y m)).map (·.cps.toList)=((["ask",n,k,v,s]:List â).map (·.cps.toList))++((kR y).map (·.cps.toList)++(kR m).map (·.cps.toList)):=by
  show((["ask",n,k,v,s]:List â)++(kR y++kR m)).map (·.cps.toList)=_;rw[cC,cC]
 rw[c,d,f,e,aX,aX (l:=a),aX (l:=b)];rw[F0 32 _ _ _ [jn 32 _],EK (as:=a.map _),F0 32 _ _ _ (a.map _++_),<- EK,F0 32]
 rfl
def LA{a:List â}(h:∀w∈a,tR w=wx):(a.map (·.length)).sum<=8*a.length:=by
 induction a with
 |nil=>exact aP _
 |cons w a c=>
  have d:=(AS (h w (aM ..))).1;grind
def NU(a:List â):(Txt.join dO a).length<=(a.map (·.length)).sum+a.length:=by
 show(u0 dO a).length<=_;rw[l7];have:=cz dO a;have e:dO.length=1:=rfl
 lia
def pN{fs}(F:eW fs an){t:Tr}(h:oF fs an t):(jY t).length<=9*(7*t.kn+2):=by
 have a:=NU (kR t);have b:=LA (nW F t h);rw[yV]at a b;unfold jY;lia
def vU(n:Nat):mO:=λa Q=>∃fs an t,a=[jX t]/\eW fs an/\oF fs an t/\t.kn<=500/\t.dep<n/\Q (.str (jY t))
def So:mO:=vU 31
def ZY{Q:D->Prop}(h:vU 0 ds Q):False:=by
 refine Ā h λ_ _ _ _ _ _ _ h _=>?_;lia
noncomputable def lL(fs:Fs):Tr->List D->List D
|.say _,_=>[]
|.ask k n v s y m,cs=>.tuple [.tuple [.str k,.str n,.str v],.str (eD fs k n v s cs)]::(if eD fs k n v s cs="yes" then lL fs y cs else lL fs m cs)
noncomputable def uN(fs:Fs):Tr->List D->List â
|.say _,_=>[]
|.ask k n v s y m,cs=>eD fs k n v s cs::(if eD fs k n v s cs="yes" then uN fs y cs else uN fs m cs)
noncomputable def mF(fs:Fs):Tr->List D->â
|.say a,_=>a
|.ask k n v s y m,cs=>if eD fs k n v s cs="yes" then mF fs y cs else mF fs m cs
noncomputable def vI:Tr->List â->Option Tr
|t,[]=>wz t
|.say _,_::_=>wy
|.ask _ _ _ _ y m,s::r=>if s="yes" then vI y r else if s="no" then vI m r else wy
def P5:¬("no":â)="yes":=by decide +kernel
section
variable{fs:Fs}{an:List â}
def D3(F:eW fs an){k n v st:â}(q:WQ fs (.tuple [.str k,.str n,.str v])=wx)(i:st="yes"\/st="no")(l:fT fs (.tuple cs)=wx):eD fs k n v st cs="yes"\/eD fs k n v st cs="no":=by
 refine Ó (A3 q) λf o g s r=>?_;refine Ã (dG o) λj h=>?_;refine Ä (mT l) λm e=>?_;have p:=(aJ.mp h).1;have a:cs[j]?=wz cs[j]:=aL eH
 generalize cs[j]=c at a
 rw[E3 F h a g];have hok:=e j f c h a
 cases c with
 |none=>exact i
 |str z=>
  show(if k="is" then(if z=v then("yes":â)else "no")else if f.2.idxOf z<=f.2.idxOf v then("yes":â)else "no")="yes"\/_;by_cases d:k="is"
  ·by_cases b:z=v
   ·lia
   ·exact .inr (by show(if k="is" then(if z=v then("yes":â)else "no")else if f.2.idxOf z<=f.2.idxOf v then("yes":â)else "no")="no";lia)
  ·by_cases b:f.2.idxOf z<=f.2.idxOf v
   ·lia
   ·exact .inr (by show(if k="is" then(if z=v then("yes":â)else "no")else if f.2.idxOf z<=f.2.idxOf v then("yes":â)else "no")="no";lia)
 |_=>cases hok
theorem BQ:∀t a,(lL fs t a).map za=(uN fs t a).map aI
|.say _,_=>rfl
|.ask k n v s y m,a=>by
 show(aI (eD fs k n v s a))::(if eD fs k n v s a="yes" then lL fs y a else lL fs m a).map za=.str (eD fs k n v s a)::(if eD fs k n v s a="yes" then uN fs y a else uN fs m a).map aI;congr 1;split
 ·exact BQ y a
 ·exact BQ m a
theorem BR:∀t c,∀x∈lL fs t c,∃a b,x=.tuple [a,b]
|.say _,_,x,h=>by cases h
|.ask k n v s y m,c,x,h=>by
 rcases aQ.mp h with rfl | h
 ·lia
 ·split at h
  ·exact BR y c x h
  ·exact BR m c x h
theorem AD:∀(t:Tr)(a:List D),(lL fs t a).length<=t.dep
|.say _,_=>aP _
|.ask k n v s y m,a=>by
 show(if eD fs k n v s a="yes" then lL fs y a else lL fs m a).length+1<=max y.dep m.dep+1;have b:=AD y a;have c:=AD m a;split<;>lia
theorem zK(F:eW fs an)(b:fT fs (.tuple cs)=wx):∀t,oF fs an t->vI t (uN fs t cs)=wz (.say (mF fs t cs))
|.say a,_=>rfl
|.ask k n v s y m,ht=>by
 obtain⟨d,f,g,c⟩:=ht;show(if eD fs k n v s cs="yes" then vI y _ else if eD fs k n v s cs="no" then vI m _ else wy)=wz (.say (if eD fs k n v s cs="yes" then mF fs y cs else mF fs m cs));rcases D3 F d f b with e | e
 ·rw[b7 e,b7 e,b7 e];exact zK F b y g
 ·have ne:=λz=>P5 (e.symm.trans z);rw[a8 ne,b7 e,a8 ne,a8 ne];exact zK F b m c
theorem K2:∀{t p pl},vI t pl=wz p->∀s∈pl,s="yes"\/s="no"
|t,p,[],h,x,hx=>by cases hx
|.say a,p,s::r,h,x,hx=>by cases h
|.ask k n v st y m,p,s::r,h,x,hx=>by
 have b:(if s="yes" then vI y r else if s="no" then vI m r else wy)=wz p:=h;by_cases c:s="yes"
 ·rw[b7 c]at b;rcases aQ.mp hx with rfl | hx
  ·lia
  ·exact K2 b x hx
 ·rw[a8 c]at b;by_cases d:s="no"
  ·rw[b7 d]at b;rcases aQ.mp hx with rfl | hx
   ·lia
   ·exact K2 b x hx
  lia
end
noncomputable def there(fs:Fs)(t:Tr)(rs:List (List D×â))(a:List â)(x:D):Bool:=match x with
|.int i=>(match L2.atI rs i with | some r=>decide ((uN fs t r.1).take a.length=a) | none=>ww)
|_=>ww
def Tz:mO:=λa Q=>∃k n v s y m sd,a=[jX (.ask k n v s y m),.str sd]/\Q (jX (if sd="yes" then y else m))
def T1:WT:=λb Q=>∃fs an t a,b=[gM fs an,jX t,.tuple a]/\eW fs an/\oF fs an t/\fT fs (.tuple a)=wx/\t.dep<=40/\Q (lL fs t a)
def T2:mO:=λb Q=>∃fs an t a,b=[gM fs an,jX t,.tuple a]/\eW fs an/\oF fs an t/\fT fs (.tuple a)=wx/\t.dep<=40/\Q (.tuple ((uN fs t a).map aI))
def Ua:mO:=λb Q=>∃fs an t a,b=[gM fs an,jX t,.tuple a]/\eW fs an/\oF fs an t/\fT fs (.tuple a)=wx/\t.dep<=40/\Q (.str (mF fs t a))
def Ub:mO:=λb Q=>∃t p a,b=[jX t,.tuple (a.map aI)]/\vI t a=wz p/\t.dep<=40/\Q (jX p)
def Rh:mO:=λa Q=>∃f,a=[qE f]/\f.2.length<=5/\Q (.tuple (f.2.map aI++[.none]))
noncomputable def zt(fs:Fs)(k n v st:â)(r:List D×â):Bool:=decide (eD fs k n v st r.1="yes")
def iD.filt{fs}{rs:List (List D×â)}(h:iD fs an rs)(p:List D×â->Bool):iD fs an (rs.filter p):=λr a=>h r (cW.mp a).1
noncomputable def E9(rs:List (List D×â))(x:D):D:=match x with | .int i=>(match L2.atI rs i with | some r=>eJ r | none=>.none) | _=>.none
def T7{rs:List (List D×â)}{i:Nat}(h:i<rs.length):L2.atI (rs++[r]) (i:Int)=L2.atI rs (i:Int):=by
 rw[L2.eR (aL h),L2.eR (by rw[eQ h];exact aL h)]
theorem yx(fs:Fs)(k n v st w:â):∀m rs,rs.length=m->(mC fs k n v st rs w).map (E9 rs)=(rs.filter λr=>decide (eD fs k n v st r.1=w)).map eJ
|0,rs,h=>by rw[pA.mp h];rfl
|m+1,rs,h=>by
 obtain⟨a,r,rfl⟩:∃a r,rs=a++[r]:=⟨rs.dropLast,rs.getLast (λe=>by grind),(List.dropLast_concat_getLast _).symm⟩;have q:a.length=m:=by rw[aR]at h;simpa using h
 have i:=yx fs k n v st w m a q;unfold mC at i |-
 have l:fA (a++[r]).length=fA a.length++[.int (a.length:Int)]:=by
  unfold fA;rw[aR,qL,G0,cC];rfl
 have b:L2.atI (a++[r]) (a.length:Int)=wz r:=L2.eR (by rw[dY (aP _),aTm];rfl)
 have o:(fA a.length).filter (wB fs k n v st (a++[r]) w)=(fA a.length).filter (wB fs k n v st a w):=uD λx f=>by
  obtain⟨j,d,rfl⟩:=aS.mp f;show(match L2.atI (a++[r]) (j:Int)with | some r=>decide (eD fs k n v st r.1=w) | none=>ww)=match L2.atI a (j:Int)with | some r=>decide (eD fs k n v st r.1=w) | none=>ww
  rw[T7 (by simpa using d)]
 have p:((fA a.length).filter (wB fs k n v st a w)).map (E9 (a++[r]))=((fA a.length).filter (wB fs k n v st a w)).map (E9 a):=jS λx f=>by
  obtain⟨j,d,rfl⟩:=aS.mp (cW.mp f).1;show(match L2.atI (a++[r]) (j:Int)with | some r=>eJ r | none=>.none)=match L2.atI a (j:Int)with | some r=>eJ r | none=>.none
  rw[T7 (by simpa using d)]
 have g:wB fs k n v st (a++[r]) w (.int (a.length:Int))=decide (eD fs k n v st r.1=w):=by
  show(match L2.atI (a++[r]) (a.length:Int)with | some r=>decide (eD fs k n v st r.1=w) | none=>ww)=_;rw[b]
 have s:E9 (a++[r]) (.int (a.length:Int))=eJ r:=by
  show(match L2.atI (a++[r]) (a.length:Int)with | some r=>eJ r | none=>.none)=_;rw[b]
 grind
def Tu:mO:=λa Q=>∃fs k n v st w rs,a=[.list (rs.map eJ),.list (mC fs k n v st rs w)]/\rs.length<=60/\Q (.list ((rs.filter λr=>decide (eD fs k n v st r.1=w)).map eJ))
def D9{fs}(F:eW fs an){k n v st:â}(c:WQ fs (.tuple [.str k,.str n,.str v])=wx)(b:st="yes"\/st="no"){rs:List (List D×â)}(a:iD fs an rs):(rs.filter λr=>decide (eD fs k n v st r.1="no"))=rs.filter λr=>!zt fs k n v st r:=uD λr d=>by
 unfold zt;rcases D3 F c b (a r d).1 with e | e
 ·rw[e];rfl
 ·rw[e];rfl
def Te:mO:=λa Q=>∃fs an rs,a=[gM fs an,.list (rs.map eJ)]/\eW fs an/\iD fs an rs/\rs.length<=60/\Q (.list ((jU an rs).map bW))
abbrev Qn:=â×â×â
abbrev Ch:=Qn×â
noncomputable def qD(q:Qn):D:=.tuple [.str q.1,.str q.2.1,.str q.2.2]
noncomputable def tq(d:D):Qn:=match d with | .tuple [.str k,.str n,.str v]=>(k,n,v) | _=>("","","")
noncomputable def qs(fs:Fs):List Qn:=(iH fs).map tq
def D5(fs:Fs):(qs fs).map qD=iH fs:=by
 unfold qs;rw[bJ]
 have:∀d∈iH fs,(qD∘tq) d=id d:=λd hd=>by
  obtain⟨f,b,⟨z,a,rfl⟩ | ⟨z,a,c,rfl⟩⟩:=GJ hd<;>rfl
 rw[jS this,yT]
def KZ{fs}{q:Qn}(h:q∈qs fs):WQ fs (.tuple [.str q.1,.str q.2.1,.str q.2.2])=true:=by
 have:qD q∈(qs fs).map qD:=aS.mpr ⟨q,h,gL⟩;rw[D5]at this;exact Q1 this
noncomputable def vQ(q:Qn):List Ch:=[(q,"yes"),(q,"no")]
noncomputable def MJ(fs:Fs):List Ch:=(qs fs).flatMap vQ
def Q0{fs}{c:Ch}(h:c∈MJ fs):c.1∈qs fs/\(c.2="yes"\/c.2="no"):=by
 refine Â (List.mem_flatMap.mp h) λq b a=>?_;simp only[vQ,aQ,cP,i6]at a;lia
def LS(fs:Fs):(MJ fs).length=2*(iH fs).length:=by
 unfold MJ qs
 generalize (iH fs)=l
 induction l with
 |nil=>rfl
 |cons x l a=>
  rw[aX,aB9,aR,a];show 2+_=2*(l.length+1);lia
noncomputable def yl(fs:Fs)(c:Ch)(r:Rw):Bool:=zt fs c.1.1 c.1.2.1 c.1.2.2 c.2 r
noncomputable abbrev yR(fs:Fs)(c:Ch)(R:List Rw):List Rw:=R.filter (yl fs c)
noncomputable abbrev nR(fs:Fs)(c:Ch)(R:List Rw):List Rw:=R.filter λr=>!yl fs c r
noncomputable def xp(c:Ch):D:=.tuple [qD c.1,.str c.2]
def Rs:mO:=λa Q=>∃fs an,a=[gM fs an]/\eW fs an/\Q (.list ((MJ fs).map xp))
def Td:mO:=λa Q=>∃fs an,a=[gM fs an]/\eW fs an/\Q (.list ((qs fs).map qD))
def Xk{i:Int}(b:-999999999999<=i)(c:i<=999999999999){m:Nat}:Th 0 m (.int i):=by
 have a:i.natAbs<10^12:=by lia
 refine⟨aP _,?_,?_,gL,dA _,gL⟩
 ·have:=PyData.shown_int_le a;exact a9 eH
 ·refine a9 ?_;by_cases e:i.natAbs=0
  ·simp_all
  ·refine(aUf e).mpr (cA a ?_);lia
def Xm{n:Nat}(h:n<=999999999999){m:Nat}:Th 0 m (.int (n:Nat)):=Xk eH eH
noncomputable def low(a b:Nat):Nat×Nat:=(a / a.gcd b,b / a.gcd b)
noncomputable def QS(x:Nat×Nat):D:=.tuple [.int (x.1:Nat),.int (x.2:Nat)]
noncomputable def zV(R:List Rw):Nat×Nat:=low (GZ R R) (max 1 R.length)
noncomputable def zc(x y:Nat×Nat):Nat×Nat:=low (x.1*y.2+y.1*x.2) (x.2*y.2)
noncomputable def dC(fs:Fs)(R:List Rw)(c:Ch):Nat×Nat:=zc (zV (yR fs c R)) (zV (nR fs c R))
noncomputable def okC(fs:Fs)(R:List Rw)(m:Int)(c:Ch):Bool:=decide (m<=((yR fs c R).length:Int))&&decide (m<=((nR fs c R).length:Int))
noncomputable def jD(fs:Fs)(R:List Rw)(m:Int):List Ch:=(MJ fs).filter (okC fs R m)
noncomputable def QW(fs:Fs)(R:List Rw)(c:Ch):D:=.tuple [qD c.1,.str c.2,QS (dC fs R c)]
noncomputable def zR(l:List (Nat×Nat)):Nat:=l.foldl (λc x=>c.lcm x.2) 1
noncomputable def VM(B:Nat)(x:Nat×Nat):Int:=(x.1:Int)*((B:Int) / (x.2:Int))
noncomputable def WS(fs:Fs)(R:List Rw)(m:Int):List (Nat×Nat):=(jD fs R m).map (dC fs R)
noncomputable def LH(fs:Fs)(R:List Rw)(m:Int):List Int:=(WS fs R m).map (VM (zR (WS fs R m)))
noncomputable def HA(fs:Fs)(R:List Rw)(m:Int):List D:=(jD fs R m).map (QW fs R)
def xy(fs:Fs)(R:List Rw)(m:Int)(J:List Nat):Prop:=SS.MK (jD fs R m).length (λi=>(LH fs R m).getD i 0) J
noncomputable def Ao(fs:Fs)(R:List Rw)(m:Int)(J:List Nat):List D:=J.map λi=>(HA fs R m).getD i .none
def EC{a b:Nat}(h:0<b):0<(low a b).2:=Nat.div_pos (aL8 h (DZ a b)) (vG a h)
def Z7(a b:Nat):(low a b).1<=a/\(low a b).2<=b:=⟨aIg _ _,aIg _ _⟩
structure Sml(x:Nat×Nat)(a b:Nat):Prop where
 top:x.1<=a
 pos:0<x.2
 bot:x.2<=b
def BB{R:List Rw}(h:R.length<=60):Sml (zV R) 3600 60:=by
 have a:=Z7 (GZ R R) (max 1 R.length);have b:=PQ R R;have c:=nH h h;exact⟨by show(low _ _).1<=_;lia,EC eH,by show(low _ _).2<=_;lia⟩
def RV{x y:Nat×Nat}(a:Sml x 3600 60)(b:Sml y 3600 60):x.1*y.2+y.1*x.2<=432000/\x.2*y.2<=3600/\0<x.2*y.2:=by
 have c:=nH a.top b.bot;have d:=nH b.top a.bot;have e:=nH a.bot b.bot;exact⟨eH,eH,uF a.pos b.pos⟩
def XZ(e:Sml x 3600 60)(f:Sml y 3600 60):Sml (zc x y) 432000 3600:=by
 refine ñ (RV e f) λb c d=>?_;have a:=Z7 (x.1*y.2+y.1*x.2) (x.2*y.2);exact⟨bK a.1 b,EC d,bK a.2 c⟩
def CH{fs}{R:List Rw}(h:R.length<=60)(c:Ch):Sml (dC fs R c) 432000 3600:=
 XZ (BB (bK (cH _ _) h)) (BB (bK (cH _ _) h))
theorem OF:∀(l:List (Nat×Nat))(c:Nat),c ∣ l.foldl (λc x=>c.lcm x.2) c/\∀x∈l,x.2 ∣ l.foldl (λc x=>c.lcm x.2) c
|[],c=>⟨Nat.dvd_refl _,λx hx=>by cases hx⟩
|y::l,c=>by
 obtain⟨a,b⟩:=OF l (c.lcm y.2);refine⟨aL9 (Nat.dvd_lcm_left _ _) a,λx hx=>?_⟩;rcases aQ.mp hx with rfl | hx
 ·exact aL9 (Nat.dvd_lcm_right _ _) a
 ·exact b x hx
theorem OE:∀(l:List (Nat×Nat))(c:Nat),0<c->(∀x∈l,0<x.2)->0<l.foldl (λc x=>c.lcm x.2) c
|[],c,h,_=>h
|y::l,c,h,g=>OE l _ (Nat.lcm_pos h (g y (aM ..))) λx a=>g x (aE _ a)
def NT{B:Nat}{x:Nat×Nat}:VM B x=((x.1*(B / x.2):Nat):Int):=by
 rfl
def Zb{B:Nat}{x y:Nat×Nat}(k:0<B)(l:x.2 ∣ B)(m:y.2 ∣ B)(f:0<x.2)(g:0<y.2):VM B x<VM B y↔x.1*y.2<y.1*x.2:=by
 rw[NT,NT,aTp];refine Ã l λa e=>?_;refine Ã m λb hb=>?_;have i:B / x.2=a:=by rw[e];exact O1 a f
 have j:B / y.2=b:=by rw[hb];exact O1 b g
 rw[i,j];have c:x.1*a*(x.2*y.2)=B*(x.1*y.2):=by rw[e];simp only[fE,fZ,dQ]
 have d:y.1*b*(x.2*y.2)=B*(y.1*x.2):=by rw[hb];simp only[fE,fZ,dQ]
 constructor
 ·intro h;have:=iG h (uF f g);simp_all
 ·intro h;have:=Nat.mul_lt_mul_of_pos_left h k;rw[<- c,<- d]at this;exact kB this
def aS9{fs}(F:eW fs an)(R:List Rw)(m:Int):(jD fs R m).length<=100:=by
 have c:=nV F fs λg b=>b;have a:=cH (okC fs R m) (MJ fs);rw[LS]at a;have n5:=F.n5;show((MJ fs).filter _).length<=_;lia
def aAn(fs:Fs)(R:List Rw)(m:Int):(LH fs R m).length=(jD fs R m).length:=by unfold LH WS;rw[aC,aC]
def wK(fs:Fs)(R:List Rw)(m:Int):(HA fs R m).length=(jD fs R m).length:=by unfold HA;rw[aC]
def LG{fs}{m:Int}{i:Nat}(h:i<(jD fs R m).length):(LH fs R m).getD i 0=VM (zR (WS fs R m)) (dC fs R (jD fs R m)[i]):=by
 unfold LH;rw[dM,aO];unfold WS;rw[aO,aL h];rfl
def TQ{fs}{m:Int}{i:Nat}(h:i<(jD fs R m).length):(HA fs R m).getD i .none=QW fs R (jD fs R m)[i]:=by
 unfold HA;rw[dM,aO,aL h];rfl
def Vu{fs}{R:List Rw}{m:Int}(a:R.length<=60){i j:Nat}(b:i<(jD fs R m).length)(d:j<(jD fs R m).length) :
  (LH fs R m).getD i 0<(LH fs R m).getD j 0↔(dC fs R (jD fs R m)[i]).1*(dC fs R (jD fs R m)[j]).2<(dC fs R (jD fs R m)[j]).1*(dC fs R (jD fs R m)[i]).2:=by
 rw[LG b,LG d]
 have e:∀x∈WS fs R m,0<x.2:=λx f=>by
  refine Â (aS.mp f) λc _ z=>?_;subst z;exact(CH a c).pos
 have hd:=(OF (WS fs R m) 1).2;exact Zb (OE _ _ cS e) (hd _ (WH (iY b))) (hd _ (WH (iY d))) (CH a _).pos (CH a _).pos
theorem IX:∀(n:Nat)(J:List Nat),J.Nodup->(∀i∈J,i<n)->J.length<=n
|0,J,_,h=>by
 cases J with
 |nil=>exact aP _
 |cons j J=>exact b9 (h j (aM ..)) (HK _)
|n+1,J,nd,h=>by
 have e:=IX n (J.filter (· != n)) (nd.filter _) λi c=>by
  obtain⟨a,b⟩:=cW.mp c;have:=h i a;have d:i≠n:=by simpa using b
  lia
 have f:J.length=(J.filter (· != n)).length+J.count n:=by
  rw[J9,<- G4,DF];congr 1;apply List.countP_congr;intro x _;simp
 grind
def UQ{n:Nat}{k:Nat->Int}{J:List Nat}(h:SS.MK n k J):J.Nodup:=h.ord.imp λ{a b} q z=>by
 subst z;lia
def aDf{n:Nat}{k:Nat->Int}(h:SS.MK n k J){i:Nat}(a:i<n):i∈J:=by
 by_cases e:i∈J
 ·exact e
 ·have:=IX n (i::J) (kI.mpr ⟨e,UQ h⟩) λx hx=>by
   rcases aQ.mp hx with rfl | hx
   ·exact a
   ·exact h.lt x hx
  rw[bD,h.len]at this;lia
def Sa:mO:=λb Q=>∃a bs m,b=[.tuple [.list a,.list bs],.int m]/\Q (.bool (decide (m<=(a.length:Int))&&decide (m<=(bs.length:Int))))
def Rm:mO:=λa Q=>∃x y,a=[QS x,QS y]/\Sml x 3600 60/\Sml y 3600 60/\Q (QS (zc x y))
def Rp:mO:=λa Q=>∃l,a=[.list (l.map QS)]/\(∀x∈l,0<x.2/\x.2<=1000000)/\Q (.int (zR l:Nat))
def Tt:WT:=λa Q=>∃fs an rs m,a=[gM fs an,.list (rs.map eJ),.int m]/\eW fs an/\iD fs an rs/\rs.length<=60/\∀J,xy fs rs m J->Q (Ao fs rs m J)
def UU:∀(l:List Sl)(a b c x y z:Sl),((((((l.set 0 a).set 1 b).set 2 c).set 0 x).set 1 y).set 2 z)=((l.set 0 x).set 1 y).set 2 z
|[],_,_,_,_,_,_=>rfl
|[_],_,_,_,_,_,_=>rfl
|[_,_],_,_,_,_,_,_=>rfl
|_::_::_::_,_,_,_,_,_,_=>rfl
def Zg{l:ET}{Q:D->Prop}{ts:List D}(g:wP ti σ ts)(f:D->D)(r:ts.length<=100000)(n:∀x∈ts,∃a b c,x=.tuple [a,b,c])(p:∀a b c q,.tuple [a,b,c]∈ts->q (f (.tuple [a,b,c]))->l ((((jZ fr σ).set 0 (.val a)).set 1 (.val b)).set 2 (.val c)) q)(o:Q (.list (ts.map f))):WR fr ti (zy 0 1 2) DA l σ Q:=by
 refine g _ ⟨r,λk d e=>(∀x y z,((d.set 0 (.val x)).set 1 (.val y)).set 2 (.val z)=(((jZ fr σ).set 0 (.val x)).set 1 (.val y)).set 2 (.val z))/\e=(ts.take k).map f,⟨λ_ _ _=>rfl,gL⟩,λk x d e j h=>?_,λd e h=>?_⟩
 ·refine Ä h λm w=>?_;subst w;have i:=aZ j;refine Ë (n x i) λa b c w=>?_;subst w;refine⟨a,b,c,gL,?_⟩;rw[m a b c];refine p a b c _ i ⟨λx y z=>UU _ _ _ _ _ _ _,?_⟩;rw[dD,j,cC];rfl
 grind
noncomputable def lH(x y:Nat×Nat):Bool:=decide (x.1*y.2<y.1*x.2)
noncomputable def nX(fs:Fs)(R:List Rw)(b x:Ch):Ch:=if lH (dC fs R x) (dC fs R b)=wx then x else b
noncomputable def xg(fs:Fs)(R:List Rw):List Ch->Option Ch
|[]=>wy
|c::l=>wz (l.foldl (nX fs R) c)
noncomputable def qI(fs:Fs)(R:List Rw)(m:Int):Option Ch:=(xg fs R (jD fs R m)).filter λc=>lH (dC fs R c) (zV R)
noncomputable def Di(fs:Fs)(R:List Rw):Option Ch->D
|some c=>QW fs R c
|none=>.none
def zj(k:Nat->Int)(n p:Nat):Prop:=p<n/\(∀q,q<n->k p<=k q)/\∀q,q<p->k p<k q
def aAr{k:Nat->Int}{n p q:Nat}(c:zj k n p)(d:zj k n q):p=q:=by
 rcases pR p q with z | z | z
 ·have a:=d.2.2 p z;have b:=c.2.1 q d.1;lia
 ·exact z
 ·have a:=c.2.2 q z;have b:=d.2.1 p c.1;lia
def X0{n:Nat}{k:Nat->Int}{i:Nat}(h:SS.MK n k (i::J)):zj k n i:=by
 obtain⟨c,a2⟩:=List.pairwise_cons.mp h.ord
 have lo:∀q,q<n->q≠i->k i<k q\/(k i=k q/\i<q):=λq a b=>by
  rcases aQ.mp (aDf h a)with z | z
  ·exact b9 z b
  ·exact c q z
 refine⟨h.lt i (aM ..),λq a=>?_,λq a=>?_⟩
 ·by_cases e:q=i
  ·rw[e];exact pC _
  ·have:=lo q a e;lia
 ·have d:=h.lt i (aM ..);have:=lo q eH eH;lia
theorem Hj{fs}{R:List Rw}(h:R.length<=60)(m:Int):∀(n:Nat)(b:n<(jD fs R m).length),∃p,∃g:p<(jD fs R m).length,zj (λi=>(LH fs R m).getD i 0) (n+1) p/\(((jD fs R m).drop 1).take n).foldl (nX fs R) ((jD fs R m)[0]' eH)=(jD fs R m)[p]
|0,b=>⟨0,eH,⟨eH,λq d=>by lia,λq d=>by lia⟩,by rw[aIh];rfl⟩
|n+1,b=>by
 obtain⟨p,g,⟨o,f,k⟩,l⟩:=Hj h m n (Nat.lt_of_succ_lt b)
 have j:((jD fs R m).drop 1).take (n+1)=((jD fs R m).drop 1).take n++[(jD fs R m)[n+1]]:=by
  rw[dD,lZ,Nat.add_comm 1 n,aL b];rfl
 have r:=Vu h b g
 have a:(((jD fs R m).drop 1).take (n+1)).foldl (nX fs R) ((jD fs R m)[0]' eH)=nX fs R (jD fs R m)[p] (jD fs R m)[n+1]:=by
  rw[j,DG,l];rfl
 unfold nX lH at a;by_cases c:(dC fs R (jD fs R m)[n+1]).1*(dC fs R (jD fs R m)[p]).2<(dC fs R (jD fs R m)[p]).1*(dC fs R (jD fs R m)[n+1]).2
 ·rw[b7 (a9 c)]at a;refine⟨n+1,b,⟨eH,λq d=>?_,λq d=>?_⟩,a⟩
  ·grind
  grind
 ·rw[a8 (by lia)]at a;refine⟨p,g,⟨eH,λq d=>?_,k⟩,a⟩;grind
def aBn{fs}{R:List Rw}(k:R.length<=60){m:Int}{i:Nat}(h:xy fs R m (i::J)):xg fs R (jD fs R m)=wz ((jD fs R m)[i]'(h.lt i (aM ..))):=by
 have n:=h.lt i (aM ..);have c:0<(jD fs R m).length:=by lia
 obtain⟨p,o,f,d⟩:=Hj k m ((jD fs R m).length-1) (Nat.sub_lt c Nat.one_pos);rw[Nat.sub_add_cancel c]at f;have e:=aAr f (X0 h);subst e;rw[(fJ (by simp))]at d
 obtain⟨a,l,b⟩:∃a l,jD fs R m=a::l:=by
  cases b:jD fs R m with
  |nil=>grind
  |cons a l=>lia
 have g:(jD fs R m)[0]=a:=by simp[b]
 have j:(jD fs R m).drop 1=l:=by rw[b];rfl
 rw[g,j]at d;have hb:xg fs R (jD fs R m)=wz (l.foldl (nX fs R) a):=by rw[b];rfl
 rw[hb,d]
def Yi{fs}{m:Int}(h:xy fs R m []):xg fs R (jD fs R m)=none:=by
 have:(jD fs R m).length=0:=by have:=h.len;simpa using this.symm
 rw[pA.mp this];rfl
def JZ{fs}{m:Int}(h:qI fs R m=wz c):c∈jD fs R m:=by
 have b:=(Option.filter_eq_some_iff.mp h).1
 cases d:jD fs R m with
 |nil=>rw[d]at b;cases b
 |cons a l=>
  rw[d]at b
  have:∀(l:List Ch)(a:Ch),l.foldl (nX fs R) a∈a::l:=by
   intro l
   induction l with
   |nil=>simp
   |cons x l e=>
    intro a;rw[jK];rcases aQ.mp (e (nX fs R a x))with z | z
    ·rw[z];unfold nX;split
     ·simp
     simp
    grind
  rw[<- (c7 b)];grind
def Ro:mO:=λa Q=>∃x y,a=[QS x,QS y]/\x.1<=1000000/\y.1<=1000000/\Q (.bool (lH x y))
def Tv:mO:=λa Q=>∃fs an rs m,a=[gM fs an,.list (rs.map eJ),.int m]/\eW fs an/\iD fs an rs/\rs.length<=60/\Q (Di fs rs (qI fs rs m))
def Gr(fs:Fs)(an:List â)(m:Int):Nat->List Rw->Tr->Prop
|0,R,t=>∃a,GU an R a/\t=.say a
|d+1,R,t=>match qI fs R m with
 |none=>∃a,GU an R a/\t=.say a
 |some c=>∃y n,Gr fs an m d (yR fs c R) y/\Gr fs an m d (nR fs c R) n/\t=.ask c.1.1 c.1.2.1 c.1.2.2 c.2 y n
theorem NY{fs}{m:Int}:∀(d:Nat){R}{t:Tr},Gr fs an m d R t->oF fs an t/\t.dep<=d
|0,R,t,h=>by
 obtain⟨a,⟨k,e,_⟩,rfl⟩:=h;exact⟨aZ e,aP _⟩
|d+1,R,t,h=>by
 unfold Gr at h
 cases e:qI fs R m with
 |none=>
  rw[e]at h;obtain⟨a,⟨k,e,_⟩,rfl⟩:=h;exact⟨aZ e,dA _⟩
 |some c=>
  rw[e]at h;obtain⟨y,n,g,i,rfl⟩:=h;obtain⟨b,a2⟩:=NY d g;obtain⟨f,o⟩:=NY d i;obtain⟨j,l⟩:=Q0 (cW.mp (JZ e)).1;exact⟨⟨KZ j,l,b,f⟩,by show max y.dep n.dep+1<=d+1;lia⟩
def vW(a:Nat):mO:=λb Q=>∃(fs:Fs)(an:List â)(rs:List Rw)(d:Nat)(m:Int),b=[gM fs an,.list (rs.map eJ),.int d,.int m]/\eW fs an/\iD fs an rs/\rs.length<=60/\d<a/\∀t,Gr fs an m d rs t->Q (jX t)
def Tw:mO:=vW 7
def Z0{Q:D->Prop}(h:vW 0 ds Q):False:=by
 refine ø h λfs an rs d m e F a b c h=>?_;lia
noncomputable def A2(fs:Fs)(an:List â)(d:D):Bool:=match d with | .tuple [c,a]=>fT fs c&&yI an a | _=>ww
def Rf:mO:=λa Q=>∃fs an d,a=[gM fs an,d]/\eW fs an/\Cd d/\Q (.bool (fT fs d))
def Rg:mO:=λa Q=>∃fs an d,a=[gM fs an,d]/\eW fs an/\Cd d/\Q (.bool (A2 fs an d))
noncomputable def zv:D->Bool
|.tuple [.tuple [_,.tuple vs],v]=>OW v (.tuple (vs++[.none]))
|_=>ww
def Zm(fs:Fs)(a:List D):((EN (fs.map qE) a).map zv).all id=(fs.zip a).all λp=>OV p.1 p.2:=by
 unfold EN;rw[bJ,aMc,List.zip_map_left,aMc];apply d8 (λg=>List.all (fs.zip a) g);funext p;exact QP p.1 p.2
section
variable{fs:Fs}{an:List â}
def Fc(F:eW fs an){t:Tr}(h:oF fs an t)(hd:t.dep<=40):Cd (jX t):=(XR F t h).cd eH
def SM(a:Cd x)(b:Cd y):ZP x y:=⟨a.lay,b.lay,by have:=a.dep;lia⟩
def Oh{s:â}(h:s="yes"\/s="no"):tR s=true:=by
 rcases h with rfl | rfl
 ·exact FO
 ·exact NK
def T5(F:eW fs an){k n v s:â}(h:oF fs an (.ask k n v s y m)):Cd (.tuple [.str "ask",.tuple [.str k,.str n,.str v],.str s]):=
 (BS 27 1 3 (all_cons (kM P6 cS) (all_cons (Dl F h.1) (all_cons (kM (Oh h.2.1) cS) BH))) (aP _) (aP _) (aP _)).cd cS
end
def aDr{c:yN}{g u:zW}(R:Bool->Prop)(P:List Sl->Prop)(h:∀q,(∀b,R b->q b)->c σ q)(i:R wx->∀d,(∀a,P a->d.nx a)->g d σ)(hb:R ww->P σ)(f:∀a,P a->u DT a):qO (lS c g pW) u DT σ:=h _ λb e=>by
 cases b with
 |true=>exact i e { DT with nx:=u DT } f
 |false=>exact f _ (hb e)
def X7{e:ET}{d:List Sl}{i j l:Nat}(h:∀q,q (.tuple [a,b,c])->e d q)(k:u DT (((d.set i (.val a)).set j (.val b)).set l (.val c))):qO (Gc e (zy i j l)) u DT d:=h _ ⟨a,b,c,gL,k⟩
noncomputable def jx(fs:Fs)(n:â):Nat:=(fs.map (·.1)).idxOf n
section
variable{fs:Fs}{an:List â}
def Vq(F:eW fs an){k n v:â}(h:WQ fs (.tuple [.str k,.str n,.str v])=wx):∃f,fs[jx fs n]?=wz f/\f∈fs/\f.1=n/\v∈f.2/\(k="is"\/k="upto"):=by
 refine Ó (A3 h) λf b a e d=>?_;refine Ã (dG b) λj c=>?_;have:jx fs n=j:=by rw[<- a];exact EB F c
 exact⟨f,by rw[this];exact c,b,a,e,d.imp id λz=>z.1⟩
end
noncomputable def mE(a:List (Nat×Rw)):List (Int×D):=a.map λe=>((e.1:Int),eJ e.2)
noncomputable def NJ(a:List (Nat×Rw)):List D:=a.map λe=>.tuple [.int (e.1:Nat),eJ e.2]
def L1(C:à):xX (mM C):=λc n b Q=>∃T a,c=lA T/\b=[lA T]/\n.kvs=mE a/\Q n (.list (NJ a))
def QD(C:à):xX (mM C):=λb n a Q=>∃T,b=lA T/\a=[lA T]/\Q n n.st
def Rb(C:à):xX (mM C):=λb n a Q=>∃T j d,b=lA T/\a=[lA T,.int j]/\qB n.kvs j=wz d/\Q n .none
def Ra(C:à):xX (mM C):=λb n a Q=>∃fs an T d,b=lA T/\a=[lA T,d]/\eW fs an/\T.fm=gM fs an/\Cd d/\A2 fs an d=wx/\Q n .none
def Rc(C:à):xX (mM C):=λf n c Q=>∃fs an d m T a b,f=lA T/\c=[lA T]/\eW fs an/\T.fm=gM fs an/\T.dp=(d:Nat)/\T.ls=m/\n.kvs=mE a/\iD fs an (a.map (·.2))/\a.length<=60/\d<=6/\n.st=jX b/\oF fs an b/\b.dep<=6 /\
 ∀t,Gr fs an m d (a.map (·.2)) t->∀e,Q { n with st:=jX t } (.list e)
noncomputable def nZ(k:Nat)(a:List (Nat×Rw)):List (Nat×Rw):=a.filter λe=>decide (e.1≠k)
noncomputable def sM(k:Nat)(r:Rw)(a:List (Nat×Rw)):List (Nat×Rw):=a.map λe=>if e.1=k then(e.1,r)else e
noncomputable def qZ(k:Nat)(a:List (Nat×Rw)):Option Rw:=(a.find? λe=>decide (e.1=k)).map (·.2)
def NW{fs}(h:kJ fs an r):A2 fs an (eJ r)=true:=by
 show(fT fs (.tuple r.1)&&yI an (.str r.2))=wx;rw[h.1,show yI an (.str r.2)=wx from a9 h.2];rfl
theorem QL{k:Nat}:∀ks,((mE ks).any λe=>decide (e.1=(k:Int)))=ks.any λe=>decide (e.1=k)
|[]=>rfl
|e::ks=>by
 show(decide ((e.1:Int)=(k:Int))||(mE ks).any _)=(decide (e.1=k)||ks.any _);rw[QL ks];congr 1;rw[gE,c8,c8];lia
def M9{k:Nat}(h:∀e∈ks,e.1≠k):FC (mE ks) (k:Nat) (eJ r)=mE (ks++[(k,r)]):=by
 unfold FC
 rw[QL,a8 (by
  grind)]
 unfold mE;rw[cC];rfl
def uX{k:Nat}:qZ k ks=wz r->qB (mE ks) (k:Nat)=wz (eJ r):=by
 unfold qZ qB mE;rw[J8];intro h;refine Â (dB.mp h) λe b z=>?_;subst z
 have a:((λe:Int×D=>decide (e.1=(k:Int)))∘λe:Nat×Rw=>((e.1:Int),eJ e.2))=λe:Nat×Rw=>decide (e.1=k):=by
  funext e;show decide ((e.1:Int)=(k:Int))=decide (e.1=k);rw[gE,c8,c8];omega
 rw[a,b];rfl
def F7{k:Nat}(h:qZ k ks=wz r):(k,r)∈ks:=by
 refine Â (dB.mp h) λe a z=>?_;subst z;grind
def M8{k:Nat}(h:qZ k ks=wz r):FC (mE ks) (k:Nat) (eJ r2)=mE (sM k r2 ks):=by
 unfold FC;rw[QL,b7 (vK.mpr ⟨_,F7 h,a9 gL⟩)];unfold mE sM;rw[bJ,bJ];apply jS;lia
def N3(k:Nat)(a:List (Nat×Rw)):C6 (mE a) (k:Nat)=mE (nZ k a):=by
 unfold C6 mE nZ;rw[wV];congr 1;apply uD;lia
def IH{fs}{a:List (Nat×Rw)}{k:Nat}(h:iD fs an (a.map (·.2)))(b:kJ fs an r):iD fs an ((a++[(k,r)]).map (·.2)):=λx hx=>by
 rw[cC]at hx;rcases bM.mp hx with hx | hx
 ·exact h x hx
 grind
def II{fs}{a:List (Nat×Rw)}{k:Nat}(h:iD fs an (a.map (·.2))):iD fs an ((nZ k a).map (·.2)):=λx c=>by
 refine Â (aS.mp c) λe b z=>?_;subst z;exact h _ (aS.mpr ⟨e,(cW.mp b).1,gL⟩)
def YG{fs}{b:List (Nat×Rw)}{k:Nat}(h:iD fs an (b.map (·.2)))(f:kJ fs an r):iD fs an ((sM k r b).map (·.2)):=λx g=>by
 refine Â (aS.mp g) λe d y=>?_;subst y;refine Â (aS.mp d) λa c y=>?_;subst y;by_cases z:a.1=k
 ·lia
 ·rw[a8 z];exact h _ (aS.mpr ⟨a,c,gL⟩)
def Lw(C:à):xX (mM C):=λg n c Q=>∃fs an d m T a k r b,g=lA T/\c=[lA T,eJ r]/\eW fs an/\T.fm=gM fs an/\T.dp=(d:Nat)/\T.ls=m/\n.kvs=mE a/\iD fs an (a.map (·.2))/\a.length<60/\d<=6/\n.st=jX b/\oF fs an b/\b.dep<=6/\n.fol=(k:Nat)/\k<=1000/\(∀e∈a,e.1≠k)/\kJ fs an r/\Cd (eJ r) /\
 ∀t,Gr fs an m d ((a++[(k,r)]).map (·.2)) t->∀f,Q ⟨mE (a++[(k,r)]),((k+1:Nat):Int),jX t⟩ (.tuple [.int (k:Nat),.list f])
def Ly(C:à):xX (mM C):=λf n c Q=>∃fs an d m T a k r b,f=lA T/\c=[lA T,.int (k:Nat)]/\eW fs an/\T.fm=gM fs an/\T.dp=(d:Nat)/\T.ls=m/\n.kvs=mE a/\iD fs an (a.map (·.2))/\a.length<=60/\d<=6/\n.st=jX b/\oF fs an b/\b.dep<=6/\qZ k a=wz r /\
 ∀t,Gr fs an m d ((nZ k a).map (·.2)) t->∀e,Q ⟨mE (nZ k a),n.fol,jX t⟩ (.tuple [eJ r,.list e])
def Lz(C:à):xX (mM C):=λg n e Q=>∃fs an d m T a k r b c,g=lA T/\e=[lA T,.int (k:Nat),eJ b]/\eW fs an/\T.fm=gM fs an/\T.dp=(d:Nat)/\T.ls=m/\n.kvs=mE a/\iD fs an (a.map (·.2))/\a.length<=60/\d<=6/\n.st=jX c/\oF fs an c/\c.dep<=6/\qZ k a=wz r/\kJ fs an b/\Cd (eJ b) /\
 ∀t,Gr fs an m d ((sM k b a).map (·.2)) t->∀f,Q ⟨mE (sM k b a),n.fol,jX t⟩ (.tuple [eJ r,.list f])
noncomputable def xM(C:à):D:=.dict [(.int (C:Nat),.none)]
def Dk:mO:=λa Q=>∃fs an d m,a=[gM fs an,.int (d:Nat),.int m]/\eW fs an/\d<=6/\∀t,Gr fs an m d [] t->Q (jX t)
def Tc:mO:=λb Q=>∃fs an k n v s jM a,b=[gM fs an,.tuple (.str "ask"::.tuple [.str k,.str n,.str v]::.str s::jM),.tuple a]/\eW fs an/\WQ fs (.tuple [.str k,.str n,.str v])=wx/\(s="yes"\/s="no")/\fT fs (.tuple a)=wx/\Q (.str (eD fs k n v s a))
def Ti:mO:=λa Q=>∃ns fs an,a=[jP ns,gM fs an]/\ns.length<=63/\eW fs an/\∀r,kJ fs an r->Q (eJ r)
def Mx{fs:Fs}{a:List D}(b:a.length=fs.length)(d:∀(k:Nat) f c,fs[k]?=wz f->a[k]?=wz c->OV f c=wx):fT fs (.tuple a)=true:=by
 show(decide (a.length=fs.length)&&(fs.zip a).all λp=>OV p.1 p.2)=wx;rw[a9 b,kQ,gG];intro p i;obtain⟨k,h⟩:=dG i;obtain⟨e,g⟩:=kF.mp h;exact d k p.1 p.2 e g
def Tf:mO:=λa Q=>∃fs an rs,a=[gM fs an,.list (rs.map eJ)]/\eW fs an/\iD fs an rs/\rs.length<=60/\Q (.int ((GZ rs rs:Nat):Int))
def Xy{fs}(F:eW fs an){rs:List Rw}(h:iD fs an rs):(rs.length:Int)*(rs.length:Int)-((jU an rs).map λc=>c*c).sum=((GZ rs rs:Nat):Int):=by
 have e:=λr j=>(h r j).2;have a:=SE F.an.2.2 e;have d:=EW F.an.2.2 (λ_=>(rs.length:Int)) rs e
 have f:∀l:List Rw,(l.map λ_=>(rs.length:Int)).sum=(l.length:Int)*(rs.length:Int):=λl=>by
  induction l with
  |nil=>simp
  |cons x l b=>rw[aX,dU,b,bD,oN,aUh];show _=_+1*_;lia
 have g:∀l:List Int,(l.map λc=>c*((rs.length:Int)-c)).sum=(l.map λc=>c*(rs.length:Int)).sum-(l.map λc=>c*c).sum:=λl=>by
  induction l with
  |nil=>rfl
  |cons x l b=>simp only[aX,dU];rw[b,Int.mul_sub];lia
 rw[f]at d;rw[g]at a
 have i:((jU an rs).map λc=>c*(rs.length:Int)).sum=(rs.length:Int)*(rs.length:Int):=by
  unfold jU;rw[bJ];exact d
 rw[i]at a;exact a
noncomputable def Bx(x:D):D:=match x with | .int c=>.int (c*c) | _=>.none
def vT(a:Nat):mO:=λb Q=>∃(fs:Fs)(an:List â)(rs:List Rw)(d:Nat)(m:Int),b=[gM fs an,.list (rs.map eJ),.int d,.int m]/\eW fs an/\iD fs an rs/\rs.length<=60/\d<a/\1<=m/\∀t,Gr fs an m d rs t->Q (jX t)
def Tg:mO:=vT 7
def ZX{Q:D->Prop}(h:vT 0 ds Q):False:=by
 refine ø h λfs an rs d m e F a b c h=>?_;lia
noncomputable def OS(fs:Fs)(R:List Rw)(c:Ch):Nat:=GZ (yR fs c R) (yR fs c R)*(nR fs c R).length+GZ (nR fs c R) (nR fs c R)*(yR fs c R).length
noncomputable def MG(fs:Fs)(R:List Rw)(c:Ch):Nat:=(yR fs c R).length*(nR fs c R).length
noncomputable def yi(fs:Fs)(R:List Rw):Option Ch->Nat
|none=>GZ R R
|some c=>OS fs R c
noncomputable def xn(fs:Fs)(R:List Rw):Option Ch->Nat
|none=>R.length
|some c=>MG fs R c
noncomputable def MF(fs:Fs)(R:List Rw)(m:Int)(s:Option Ch)(c:Ch):Option Ch:=if okC fs R m c=wx then(if OS fs R c*xn fs R s<yi fs R s*MG fs R c then wz c else s)else s
def Z8(a b:Nat):(low a b).1*b=a*(low a b).2:=by
 show a / a.gcd b*b=a*(b / a.gcd b);obtain⟨x,c⟩:=Nat.gcd_dvd_left a b;obtain⟨y,d⟩:=DZ a b;by_cases h:a.gcd b=0
 ·rw[h,aTo,aTo,aTl,Nat.mul_zero]
 ·have e:=Nat.pos_of_ne_zero h;have f:a / a.gcd b=x:=by rw[MC e c]
  have i:b / a.gcd b=y:=by rw[MC e d]
  grind
def YK{x y:Nat×Nat}{a b c d:Nat}(g:x.1*b=a*x.2)(i:y.1*d=c*y.2)(l:0<x.2)(m:0<y.2)(j:0<b)(k:0<d):lH x y=decide (a*d<c*b):=by
 unfold lH;rw[k6]
 have e:x.1*y.2*(b*d)=a*d*(x.2*y.2):=by
  calc x.1*y.2*(b*d)=(x.1*b)*(y.2*d):=by simp only[fZ,dQ,fE]
   _=(a*x.2)*(y.2*d):=by rw[g]
   _=_:=by simp only[fZ,dQ,fE]
 have f:y.1*x.2*(b*d)=c*b*(x.2*y.2):=by
  calc y.1*x.2*(b*d)=(y.1*d)*(x.2*b):=by simp only[fZ,dQ,fE]
   _=(c*y.2)*(x.2*b):=by rw[i]
   _=_:=by simp only[fZ,dQ,fE]
 refine⟨λh=>?_,λh=>?_⟩
 ·have:=iG h (uF j k);simp_all
 ·have:=iG h (uF l m);rw[<- e,<- f]at this;exact kB this
def BC{R:List Rw}(h:0<R.length):(zV R).1*R.length=GZ R R*(zV R).2/\0<(zV R).2:=by
 have e:max 1 R.length=R.length:=by lia
 unfold zV;rw[e];exact⟨Z8 _ _,EC h⟩
def zN{fs}(d:0<(yR fs c R).length)(b:0<(nR fs c R).length):(dC fs R c).1*MG fs R c=OS fs R c*(dC fs R c).2/\0<(dC fs R c).2/\0<MG fs R c:=by
 obtain⟨a,h⟩:=BC d;obtain⟨n1,g⟩:=BC b;unfold dC zc MG OS
 generalize zV (yR fs c R)=x at a h
 generalize zV (nR fs c R)=z at n1 g
 generalize (yR fs c R).length=y at a d
 generalize (nR fs c R).length=n at n1 b
 generalize GZ (yR fs c R) (yR fs c R)=p at a
 generalize GZ (nR fs c R) (nR fs c R)=q at n1
 have f:=uF h g;have e:=Z8 (x.1*z.2+z.1*x.2) (x.2*z.2);refine⟨?_,EC f,uF d b⟩
 generalize low (x.1*z.2+z.1*x.2) (x.2*z.2)=S at e
 apply Nat.eq_of_mul_eq_mul_right f
 grind
def uR{fs}{m:Int}(e:1<=m)(h:okC fs R m c=wx):0<(yR fs c R).length/\0<(nR fs c R).length:=by
 have a:=dH _ _▸h;lia
def aAb{x y z:Nat×Nat}(d:0<x.2)(e:0<z.2)(c:0<y.2)(h:lH x z=wx)(b:lH y z=ww):lH x y=true:=by
 refine a9 ?_;have a:=iG (c6 h) c;have a2:=zU x.2 (aF1 (i9 b));apply kB
 calc x.1*y.2*z.2=x.1*z.2*y.2:=by lia
  _<z.1*x.2*y.2:=a
  _=z.1*y.2*x.2:=by lia
  _<=y.1*z.2*x.2:=a2
  _=y.1*x.2*z.2:=by lia
def aAa{x y z:Nat×Nat}(c:0<x.2)(d:0<z.2)(e:0<y.2)(h:lH x y=wx)(b:lH y z=wx):lH x z=true:=by
 refine a9 ?_;have a:=iG (c6 h) d;have a2:=iG (c6 b) c;apply kB
 calc x.1*z.2*y.2=x.1*y.2*z.2:=by lia
  _<y.1*x.2*z.2:=a
  _=y.1*z.2*x.2:=by lia
  _<z.1*y.2*x.2:=a2
  _=z.1*x.2*y.2:=by lia
def M3{fs}{R:List Rw}{m:Int}(g:1<=m)(a:0<R.length)(h:okC fs R m c=wx):MF fs R m wy c=if lH (dC fs R c) (zV R)=wx then wz c else none:=by
 refine Ä (uR g h) λi j=>?_;refine ñ (zN i j) λb a2 d=>?_;refine Ä (BC a) λe f=>?_;unfold MF;rw[b7 h,YK b e a2 f d a];show(if OS fs R c*R.length<GZ R R*MG fs R c then wz c else wy)=_;lia
def YC{fs}{m:Int}(a:1<=m)(hb:okC fs R m b=wx)(h:okC fs R m c=wx):MF fs R m (wz b) c=wz (nX fs R b c):=by
 refine Ä (uR a h) λj k=>?_;refine Ä (uR a hb) λl n=>?_;refine ñ (zN j k) λd a2 e=>?_;refine ñ (zN l n) λf g i=>?_;unfold MF nX;rw[b7 h,YK d f a2 g e i];show(if OS fs R c*MG fs R b<OS fs R b*MG fs R c then wz c else wz b)=_;lia
theorem CA{fs}{m:Int}(a:1<=m):∀(l:List Ch)(b:Ch),okC fs R m b=wx->(∀c∈l,okC fs R m c=wx)->l.foldl (MF fs R m) (wz b)=wz (l.foldl (nX fs R) b)
|[],b,_,_=>rfl
|c::l,b,hb,h=>by
 rw[jK,jK,YC a hb (h c (aM ..))];refine CA a l _ ?_ λx d=>h x (aE _ d);unfold nX;grind
theorem xK{fs}{R:List Rw}{m:Int}(a:1<=m)(d:0<R.length):∀(l:List Ch)(b:Ch),okC fs R m b=wx->(∀c∈l,okC fs R m c=wx)->lH (dC fs R b) (zV R)=wx->lH (dC fs R (l.foldl (nX fs R) b)) (zV R)=wx
|[],b,_,_,h=>h
|c::l,b,hb,h,h2=>by
 rw[jK];have f:=h c (aM ..);have g:=λx i=>h x (aE _ i);by_cases z:lH (dC fs R c) (dC fs R b)=wx
 ·have e:nX fs R b c=c:=b7 z;rw[e];obtain⟨j,k⟩:=uR a f;obtain⟨n,o⟩:=uR a hb;exact xK a d l c f g (aAa (zN j k).2.1 (BC d).2 (zN n o).2.1 z h2)
 ·have e:nX fs R b c=b:=a8 z;rw[e];exact xK a d l b hb g h2
theorem CC{fs}{R:List Rw}{m:Int}(a:1<=m)(d:0<R.length):∀(l:List Ch)(b:Ch),okC fs R m b=wx->(∀c∈l,okC fs R m c=wx)->lH (dC fs R b) (zV R)=ww->l.foldl (MF fs R m) wy=(wz (l.foldl (nX fs R) b)).filter λc=>lH (dC fs R c) (zV R)
|[],b,_,_,h=>by grind
|c::l,b,hb,h,h2=>by
 rw[jK,jK];have f:=h c (aM ..);have g:=λx i=>h x (aE _ i);rw[M3 a d f];obtain⟨j,k⟩:=uR a f;obtain⟨n,o⟩:=uR a hb;by_cases z:lH (dC fs R c) (zV R)=wx
 ·have e:nX fs R b c=c:=b7 (aAb (zN j k).2.1 (BC d).2 (zN n o).2.1 z h2);rw[b7 z,e,CA a l c f g,zY,xK a d l c f g z];rfl
 ·rw[a8 z];have p:lH (dC fs R c) (zV R)=false:=by cases q:lH (dC fs R c) (zV R)with | true=>exact b9 q z | false=>rfl
  unfold nX;split
  ·exact CC a d l c f g p
  ·exact CC a d l b hb g h2
theorem JI(fs:Fs)(R:List Rw)(m:Int):∀(l:List Ch)(s:Option Ch),l.foldl (MF fs R m) s=(l.filter (okC fs R m)).foldl (MF fs R m) s
|[],s=>rfl
|c::l,s=>by
 rw[jK,JI fs R m l,fQ];by_cases z:okC fs R m c=wx
 ·rw[b7 z,jK]
 ·rw[a8 z];have:MF fs R m s c=s:=a8 z;rw[this]
def Zu{fs}{R:List Rw}{m:Int}(d:1<=m)(e:0<R.length):(MJ fs).foldl (MF fs R m) wy=qI fs R m:=by
 rw[JI];unfold qI jD;have a:∀c∈(MJ fs).filter (okC fs R m),okC fs R m c=true:=λc b=>(cW.mp b).2
 generalize (MJ fs).filter (okC fs R m)=l at a
 cases l with
 |nil=>rfl
 |cons c l=>
  rw[jK];have b:=a c (aM ..);have f:=λx g=>a x (aE _ g);rw[M3 d e b];show _=(wz (l.foldl (nX fs R) c)).filter _;by_cases z:lH (dC fs R c) (zV R)=wx
  ·rw[b7 z,CA d l c b f,zY,xK d e l c b f z];rfl
  ·rw[a8 z];have h:lH (dC fs R c) (zV R)=false:=by cases q:lH (dC fs R c) (zV R)with | true=>exact b9 q z | false=>rfl
   exact CC d e l c b f h
def OG(fs:Fs)(m:Int):qI fs [] m=none:=by
 unfold qI;rw[Option.filter_eq_none_iff];intro c _;have e:zV []=(0,1):=by decide
 rw[e];show¬decide (_<0*_)=wx;lia
noncomputable def Dj(fs:Fs)(R:List Rw):Option Ch->D
|none=>.none
|some c=>.tuple [.tuple [.str "ask",qD c.1,.str c.2],.list ((yR fs c R).map eJ),.list ((nR fs c R).map eJ)]
noncomputable def zu(fs:Fs)(q:Qn)(st w:â)(x:D):Bool:=match x with | .tuple [.tuple cs,_]=>decide (eD fs q.1 q.2.1 q.2.2 st cs=w) | _=>ww
def TK(fs:Fs)(q:Qn)(st w:â)(rs:List Rw):((rs.map eJ).filter (zu fs q st w)).map id=(rs.filter λr=>decide (eD fs q.1 q.2.1 q.2.2 st r.1=w)).map eJ:=by
 rw[yT,wV];rfl
def YD{fs}{R:List Rw}(a:R.length<=60)(c:Ch):MG fs R c<=3600:=
 nH (bK (cH _ _) a) (bK (cH _ _) a)
def Xj{fs}{R:List Rw}(a:R.length<=60):∀S,xn fs R S<=3600
|none=>by show R.length<=3600;lia
|some c=>YD a c
def NI(a:List (Nat×Rw)):(NJ a).length=a.length:=by unfold NJ;rw[aC]
def Hk{fs}(F:eW fs an)(h:kJ fs an r):Cd (eJ r):=(XO F h).cd cS
def zn{F:sZ}{τ}{a:OO F}{n σ}(h:a.nx n σ):MR τ a n σ:=h
def OB{fs}(h:fT fs (.tuple cs)=wx):∀c∈cs,c=.none\/∃f∈fs,∃z∈f.2,c=.str z:=λc d=>by
 refine Ä (mT h) λe g=>?_;refine Ã (dG d) λk b=>?_;have a:k<fs.length:=by rw[<- e];exact(aJ.mp b).1
 have:=g k fs[k] c (aL a) b
 cases c with
 |none=>exact .inl gL
 |str z=>exact .inr ⟨_,iY a,z,c6 this,gL⟩
 |_=>cases this
def XM(k:Nat)(r:Rw)(a:List (Nat×Rw)):(sM k r a).length=a.length:=by unfold sM;rw[aC]
def zk(x:D):Prop:=x=.none\/∃z,tR z=wx/\x=.str z
noncomputable def nF(i:Int):Str:=c9 (t6 i)
noncomputable def sI:D->â
|.str z=>z
|_=>"-"
noncomputable def ER(w:â):D:=if w="-" then .none else .str w
noncomputable def Mu(s:D):D:=match s with | .str z=>.bool (Txt.contains "0123456789" z) | _=>.none
noncomputable def yz(w:â):List Bool:=w.cps.toList.map λc=>Txt.contains "0123456789" ⟨#[c]⟩
noncomputable def JC(w:â):Bool:=decide (1<=w.length)&&decide (w.length<=9)&&(yz w).all id&&(decide (w="0")||!Txt.startswith w "0")
def Sr:mO:=λa Q=>∃w,a=[.str w]/\w.length<=100000/\Q (.bool (JC w))
noncomputable def qR(a:List â):Bool:=if a.headD ""∈(["tree","rows","rules","steps"]:List â)then decide (a.length=1)else if a.headD ""="out" then decide (a.length=2)&&JC (a.tail.headD "")else if a.headD ""="turn" then decide (2<=a.length)&&JC (a.tail.headD "")else decide (a.headD ""∈(["put","judge","why"]:List â))
def Sq:mO:=λa Q=>∃w r,a=[.list ((w::r).map aI)]/\(∀x∈r,x.length<=100000)/\Q (.bool (qR (w::r)))
def Su:mO:=λb Q=>∃a:List â,b=[.list (a.map aI)]/\a.length<=1000/\Q (.tuple (a.map ER))
def Gh:mO:=λa Q=>∃x,a=[x]/\zk x/\Q (.str (sI x))
def Tj:mO:=Gh
noncomputable def E8(r:Rw):Str:=Txt.join dO (r.1.map sI++[r.2])
def Tk:mO:=λa Q=>∃fs an r,a=[eJ r]/\eW fs an/\kJ fs an r/\Q (.str (E8 r))
def wY(x y:â):(x++y).cps.toList=x.cps.toList++y.cps.toList:=by
 show(x.cps++y.cps).toList=_;simp
def pM(x y z:â):x++y++z=x++(y++z):=pO (by rw[wY,wY,wY,wY,fC])
def oP(x y:â):(x++y).length=x.length+y.length:=by
 show(x.cps++y.cps).size=_;rw[CP];rfl
def B8(x w:â)(a:List â):x++" "++Txt.join dO (w::a)=Txt.join dO (x::w::a):=pO (by
 rw[wY,wY,lI,lI,fC];rfl)
def qF{fs}(F:eW fs an)(h:fT fs (.tuple cs)=wx):∀x∈cs,zk x:=λx b=>by
 rcases OB h x b with rfl | ⟨f,a,z,c,rfl⟩
 ·exact .inl gL
 ·exact .inr ⟨z,F.vals a z c,gL⟩
def rT{z:â}(h:tR z=wx):z≠"-"/\32∉z.cps.toList/\z.length<=8:=by
 refine⟨λe=>?_,λa=>b9 ((AU h).2.2 32 a) cR,(AS h).1⟩;subst e;exact b9 h cR
def Q4(h:zk x):ER (sI x)=x/\32∉(sI x).cps.toList/\(sI x).length<=8:=by
 rcases h with rfl | ⟨z,d,rfl⟩
 ·exact⟨b7 gL,cR,cR⟩
 ·refine ñ (rT d) λa b c=>?_;exact⟨a8 a,b,c⟩
theorem XF:∀{a:List D},(∀x∈a,zk x)->(a.map sI).map ER=a
|[],_=>rfl
|x::a,h=>by rw[aX,aX,XF λy b=>h y (aE _ b),(Q4 (h x (aM ..))).1]
def wZ{fs}(F:eW fs an){r:Rw}(h:kJ fs an r):∃w a,r.1.map sI++[r.2]=w::a/\(∀x∈w::a,32∉x.cps.toList/\x.length<=8)/\a.length=r.1.length:=by
 cases e:r.1.map sI++[r.2]with
 |nil=>simp at e
 |cons w a=>
  refine⟨w,a,gL,λx hx=>?_,?_⟩
  ·rw[<- e]at hx;rcases bM.mp hx with hx | hx
   ·refine Â (aS.mp hx) λy b z=>?_;subst z;exact(Q4 (qF F h.1 y b)).2
   ·rw[aU.mp hx];exact(rT (F.an.2.1 _ h.2)).2
  ·have:=d8 iT e;grind
theorem mP{n:Nat}:∀{a:List â},(∀w∈a,w.length<=n)->(a.map (·.length)).sum<=n*a.length
|[],_=>dA _
|w::a,h=>by
 have c:=h w (aM ..);have d:=mP λx b=>h x (aE _ b);rw[aX,dU,bD,Nat.mul_succ];lia
def yG(s:â)(a:List â):(Txt.join s a).length<=(a.map (·.length)).sum+a.length*s.length:=by
 show(u0 s a).length<=_;rw[l7];exact cz s a
def pX{fs}(F:eW fs an){r:Rw}(h:kJ fs an r):(E8 r).length<=60/\r.1.length<=5:=by
 refine Í (wZ F h) λw g e hw f=>?_;have a:=yG dO (r.1.map sI++[r.2]);have b:=mP λx c=>(hw x c).2;have hb:dO.length=1:=rfl
 have d:=(mT h.1).1;have n5:=F.n5;unfold E8;grind
def BD{a:Type}(v:List a)(x:a):fY (v++[x]) wy (wz (-1))=v:=by
 unfold fY;rw[HT.sIx_none]
 have e:HT.sIx (v++[x]).length (v++[x]).length (wz (-1))=v.length:=by
  rw[aR];unfold HT.sIx;simp
  try lia
 rw[e,pK,sJ,GX (aP _),eI]
def aAh{a:Type}(v:List a)(x:a):fY (v++[x]) (wz (-1)) wy=[x]:=by
 unfold fY
 have e:HT.sIx (v++[x]).length 0 (wz (-1))=v.length:=by
  rw[aR];unfold HT.sIx;simp
  try lia
 rw[e,HT.sIx_none,List.drop_left,fJ gC]
def SQ:∀k,k<61->(nF (k:Nat)).length<=4/\(k:Int).natAbs.log2<1920:=by decide +kernel
def Yr(a:List D):dW (.list a) (.list [])=a.isEmpty:=by cases a<;>rfl
def OI{a:List D}(h:a[a.length-1]?=wz x):atI a (-1)=wz x:=by
 have b:=(aJ.mp h).1;unfold atI
 have e:WP a.length (-1)=wz (a.length-1):=by
  unfold WP;rw[a8 cS,b7 eH];congr 1;lia
 rw[e];exact h
def ES(k:Nat)(r:Rw)(e:Nat×Rw):(if e.1=k then(e.1,r)else e).1=e.1:=by split<;>rfl
def JK(h:GU an [] a):an[0]?=wz a:=by
 refine Å h λk b _ d=>?_
 cases k with
 |zero=>exact b
 |succ k=>
  have c:0<an.length:=by have:=(aJ.mp b).1;lia
  have:=d 0 _ (Nat.succ_pos _) (aL c);exact b9 this (HK _)
def Vj{fs}{m:Int}:∀{d:Nat}{t},Gr fs an m d [] t->∃a,an[0]?=wz a/\t=.say a
|0,t,⟨a,h,e⟩=>⟨a,JK h,e⟩
|d+1,t,h=>by
 unfold Gr at h;rw[OG]at h;refine Â h λa h e=>?_;exact⟨a,JK h,e⟩
def nA{F:sZ}{c:TZ F}{t u τ DC n σ}(h:∀q,q n ww->c τ n σ q)(k:u τ DC n σ):BO (kS c t MR) u τ DC n σ:=rJ ww h (λz=>by cases z) λ_=>k
def yD{F:sZ}{c:TZ F}{t e u τ DC n σ}(h:∀q,q n wx->c τ n σ q)(k:t τ { DC with nx:=u τ DC } n σ):BO (kS c t e) u τ DC n σ:=rJ wx h (λ_=>k) λz=>by cases z
def BX{c:yN}(h:∀q,(∀b,b=ww->q b)->c σ q)(k:u DT σ):qO (lS c t pW) u DT σ:=iZ _ h (λz=>by cases z) λ_=>k
def BW{c:yN}(h:∀q,(∀b,b=wx->q b)->c σ q)(k:t { DT with nx:=u DT } σ):qO (lS c t e) u DT σ:=iZ _ h (λ_=>k) λz=>by cases z
def Xi{c:yN}(h:∀q,(∀b,b=wx->q b)->c σ q)(k:t DT σ):lS c t e DT σ:=B2 _ h (λ_=>k) λz=>by cases z
def Jo(x:D):D:=match x with | .str w=>ER w | _=>x
def Bw(x:D):D:=match x with | .tuple [_,_,d]=>d | _=>.none
structure yP(n:Nat)(x:â):Prop where
 len:x.length<=n
 asc:∀c∈x.cps.toList,c<128
def yP.cd{n:Nat}(h:yP n x):Cd (.str x):=⟨CU λc a=>DY (h.asc c a) cS,aB gL⟩
def Uz{n:Nat}{x:â}{l:List â}(h:x∈l)(k:(l.all λx=>decide (x.length<=n)&&x.cps.toList.all λc=>decide (c<128))=wx):yP n x:=by
 have:=gG.mp k x h;rw[dH,c8]at this;exact⟨this.1,λc a=>c6 (gG.mp this.2 c a)⟩
def rD{n:Nat}{x:â}(k:(([x]:List â).all λx=>decide (x.length<=n)&&x.cps.toList.all λc=>decide (c<128))=wx):yP n x:=Uz (aU.mpr gL) k
def FZ{s:â}{c:Nat}:∀{a},c∈(Txt.join s a).cps.toList->c∈s.cps.toList\/∃w∈a,c∈w.cps.toList:=λ{a} h=>by
 have e:Txt.join s a=af s a:=l7 ..;rw[e]at h;clear e
 induction a with
 |nil=>cases h
 |cons p r d=>
  cases r with
  |nil=>exact .inr ⟨p,aM ..,h⟩
  |cons q r=>
   have h:c∈(p++s++af s (q::r)).cps.toList:=h;rw[lY,lY]at h;grind
def aBy{b:List â}{n m:Nat}(h:∀w∈b,yP n w)(d:(b.map (·.length)).sum+b.length<=m):yP m (Txt.join dO b):=by
 have e:dO.length=1:=rfl
 have:=yG dO b;rw[e,WF]at this;refine⟨eH,λc a=>?_⟩;rcases FZ a with a | ⟨w,hw,a⟩
 ·exact(by decide +kernel:∀c∈dO.cps.toList,c<128) c a
 ·exact(h w hw).asc c a
noncomputable def UX(a:List â):D:=.tuple (.tuple ((fY a wy (wz (-1))).map ER)::(fY a (wz (-1)) wy).map aI)
def Ss:mO:=λb Q=>∃a,b=[.list (a.map aI)]/\a.length<=1000/\Q (UX a)
noncomputable def wL(fs:Fs)(a:List â):Bool:=fT fs (.tuple (a.map ER))
noncomputable def M4(fs:Fs)(an:List â)(a:List â):Bool:=A2 fs an (UX a)
def E7(v:List â)(a:â):UX (v++[a])=.tuple [.tuple (v.map ER),.str a]:=by
 unfold UX;rw[BD,aAh];rfl
def AK(fs:Fs)(an v:List â)(a:â):M4 fs an (v++[a])=(wL fs v&&decide (a∈an)):=by
 unfold M4;rw[E7];rfl
theorem L7:∀{l},(∀x∈l,sD x=wx)->eA l=wx
|[],_=>rfl
|a::l,h=>by
 show(sD a&&eA l)=wx;rw[h a (aM ..),L7 λx b=>h x (aE _ b)];rfl
def RM{n:Nat}(h:yP n w):sD (ER w)=true:=by
 unfold ER;split
 ·rfl
 ·exact h.cd.lay
def RN(w:â):(ER w).depth<=1:=by
 unfold ER;split<;>exact aB gL
def Hl(b:∀x∈ts,sD x=wx)(c:∀x∈ts,x.depth<=10):sD (.tuple ts)=wx/\(gX ts).depth<=11:=by
 refine⟨L7 b,?_⟩;show eP ts+1<=11
 have:∀l:List D,(∀x∈l,x.depth<=10)->eP l<=10:=λl=>by
  induction l with
  |nil=>exactλ_=>dA _
  |cons a l e=>
   intro h;show max a.depth (eP l)<=10;have:=h a (aM ..);have:=e λx d=>h x (aE _ d);lia
 have:=this ts c;lia
def OA{ws:List â}{n:Nat}(h:∀w∈ws,yP n w):Cd (.tuple (ws.map ER)):=by
 obtain⟨a,b⟩:=Hl (ts:=ws.map ER) (λx c=>by
  refine Â (aS.mp c) λw hw z=>?_;subst z;exact RM (h w hw)) λx c=>by
  refine Â (aS.mp c) λw hw z=>?_;subst z;exact bK (RN w) cS
 exact⟨a,eH⟩
def LU{n:Nat}(h:∀w∈ws,yP n w):Cd (UX ws):=by
 rcases xH ws with rfl | ⟨v,a,rfl⟩
 ·exact⟨gL,aB gL⟩
 ·rw[E7];refine⟨?_,?_⟩
  ·show(_&&(_&&wx))=wx;rw[(OA (ws:=v) (n:=n) λw hw=>h w (eG _ hw)).lay,((h a gC).cd).lay];rfl
  ·have e:(gX (v.map ER)).depth<=11:=(Hl (ts:=v.map ER) (λx b=>by
    refine Â (aS.mp b) λw hw z=>?_;subst z;exact RM (h w (eG _ hw))) λx b=>by
    refine Â (aS.mp b) λw hw z=>?_;subst z;exact bK (RN w) cS).2
   show max (gX (v.map ER)).depth (max 0 0)+1<=60;lia
def Xg{f:â×List â}(h:("-":â)∉f.2)(w:â):OV f (ER w)=(decide (w="-")||decide (w∈f.2)):=by
 unfold ER;by_cases e:w="-"
 ·rw[b7 e,a9 e];rfl
 ·rw[a8 e,b8 e];rfl
def Xe{fs}(F:eW fs an):∀f∈fs,("-":â)∉f.2:=λf a b=>(rT (F.vals a _ b)).1 gL
def Yg(v:List â)(a:â):atI ((v++[a]).map aI) (-1)=wz (.str a):=OI (by
 simp)
noncomputable def qN(e:Nat×Rw):Str:=Txt.join dO (nF (e.1:Nat)::(e.2.1.map sI++[e.2.2]))
noncomputable def rQ(a:List (Nat×Rw)):Str:=if a=[]then "none" else Txt.join ", " (a.map qN)
def zD{fs}(F:eW fs an){b:List (Nat×Rw)}(c:iD fs an (b.map (·.2)))(h:∀e∈b,e.1<=60):∀z∈b.map qN,z.length<=80:=λz k=>by
 have d:dO.length=1:=by decide +kernel
 refine Â (aS.mp k) λe a y=>?_;subst y;have l:=(SQ e.1 (by have:=h e a;lia)).1;refine Í (wZ F (c e.2 (aS.mpr ⟨e,a,gL⟩))) λw n f hw g=>?_;have m:=(pX F (c e.2 (aS.mpr ⟨e,a,gL⟩))).2;have i:=mP λx j=>(hw x j).2;refine bK (yG dO _) ?_;rw[d,f,aX,dU,bD];rw[bD]at i |-
 lia
def BZ{fs}(F:eW fs an){a:List (Nat×Rw)}(d:iD fs an (a.map (·.2)))(f:∀e∈a,e.1<=60)(h:a.length<=60):(rQ a).length<=90000:=by
 have c:(", ":â).length=2/\("none":â).length<=90000:=by decide +kernel
 unfold rQ;split
 ·exact c.2
 ·have g:=mP (zD F d f);have b:=yG ", " (a.map qN);grind
def JG{k:Nat}(h:qZ k ks=wy):qB (mE ks) (k:Nat)=none:=by
 unfold qZ at h;unfold qB mE;rw[lR,oM]at h;grind
def Sv:mO:=λb Q=>∃fs an a,b=[.list (NJ a)]/\eW fs an/\iD fs an (a.map (·.2))/\(∀e∈a,e.1<=60)/\a.length<=60/\Q (.str (rQ a))
theorem L5{fs}(F:eW fs an)(b:List D):∀{t},oF fs an t->(mF fs t b).length<=8
|.say a,ht=>(rT (F.an.2.1 _ ht)).2.2
|.ask k n v s y m,ht=>by
 show(if eD fs k n v s b="yes" then mF fs y b else mF fs m b).length<=8;split
 ·exact L5 F b ht.2.2.1
 ·exact L5 F b ht.2.2.2
def nB(x:D):Str:=match x with | .tuple [.tuple [.str k,.str n,.str v],.str s]=>Txt.join dO [n,k,v,s] | _=>""
noncomputable def Uc(k n v s:â):Str:=Txt.join dO [n,k,v,s]
def Sw:mO:=λa Q=>∃k n v s,a=[.tuple [.str k,.str n,.str v],.str s]/\k.length<=8/\n.length<=8/\v.length<=8/\s.length<=8/\Q (.str (Uc k n v s))
def Be{l:List â}{r:Int}(b:0<=r)(c:r<(l.length:Int)):∃y∈l,atI (l.map aI) r=wz (.str y):=by
 obtain⟨k,rfl⟩:=Int.eq_ofNat_of_zero_le b;have a:k<l.length:=by lia
 exact⟨l[k],iY a,L2.eR (by simp)⟩
def LB{z:â}(b:tR z=wx):∀c∈z.cps.toList,c<128:=λc a=>(by decide +kernel:∀c∈iX.cps.toList,c<128) c ((AU b).2.2 c a)
def aDw{fs}(F:eW fs an){r:Rw}(h:kJ fs an r){w:â}(hw:w∈r.1.map sI++[r.2]):∀c∈w.cps.toList,c<128:=λc a=>by
 rcases bM.mp hw with hw | hw
 ·refine Â (aS.mp hw) λx b y=>?_;subst y;rcases qF F h.1 x b with rfl | ⟨z,d,rfl⟩
  ·exact(by decide +kernel:∀c∈("-":â).cps.toList,c<128) c a
  ·exact LB d c a
 ·rw[aU.mp hw]at a;exact LB (F.an.2.1 _ h.2) c a
def Va:∀c∈dO.cps.toList,c<128:=by decide +kernel
def hM(c:List (Nat×Rw)):Prop:=c.Pairwise λa b=>a.1<b.1
def YI{f:Nat}(h:hM ks)(lt:∀e∈ks,e.1<f)(r:Rw):hM (ks++[(f,r)]):=by
 unfold hM;rw[List.pairwise_append];exact⟨h,List.pairwise_singleton _ _,λa c b hb=>by rw[aU.mp hb];exact lt a c⟩
structure OL(fs:Fs)(an:List â)(ks:List (Nat×Rw))(f:Nat):Prop where
 F:eW fs an
 ok:iD fs an (ks.map (·.2))
 ris:hM ks
 lt:∀e∈ks,e.1<f
 few:ks.length<=f
 f50:f<=50
def zw(a:List (Nat×Rw))(j:Int):Prop:=∀e∈a,(e.1:Int)≠j
noncomputable def zz(a:List (Nat×Rw))(G:Nat×Rw->D)(x:D):D:=match x with | .int i=>((a.find? λe=>decide (e.1=i.toNat)).map G).getD .none | _=>.none
theorem LN:∀{b:List (Nat×Rw)},(b.map (·.1)).Nodup->∀{e:Nat×Rw},e∈b->(b.find? λa=>decide (a.1=e.1))=wz e
|a::b,h,e,he=>by
 obtain⟨c,d⟩:=kI.mp h;rw[jL];by_cases z:a.1=e.1
 ·grind
 ·rw[b8 z];rcases aQ.mp he with rfl | he
  ·lia
  ·exact LN d he
def KR{a:List (Nat×Rw)}(h:hM a):(a.map (·.1)).Nodup:=by
 unfold aUg;rw[pI];exact h.imp λh=>by lia
def TF(c:hM ks)(G:Nat×Rw->D){e:Nat×Rw}(b:e∈ks):zz ks G (.int (e.1:Nat))=G e:=by
 show((ks.find? λa=>decide (a.1=((e.1:Nat):Int).toNat)).map G).getD .none=_;rw[uI,LN (KR c) b];rfl
def LM{a:List (Nat×Rw)}(h:(a.map (·.1)).Nodup){e:Nat×Rw}(b:e∈a):qZ e.1 a=wz e.2:=by
 unfold qZ;rw[LN h b];rfl
def YH{c:List (Nat×Rw)}{d:List Int}(f:d.Pairwise (·<·))(g:d.Perm ((mE c).map (·.1)))(j:hM c):d=c.map λe=>(e.1:Int):=by
 refine aW2.eq_of_pairwise (λa b _ _ i hb=>Int.le_antisymm i hb) (f.imp λh=>by lia) ?_ (g.trans ?_)
 ·rw[pI];exact j.imp λh=>by lia
 ·unfold mE;rw[bJ];rfl
def Eh{i:Nat}{Q:D->Prop}{m:ET}{a:List (Nat×Rw)}{f dp fw:Int}(b:σ[i]?=wz (.val (WO (mE a) f dp fw)))(g:hM a)(r:a.length<=60)(G:Nat×Rw->D)(d:∀e∈a,∀q,q (G e)->m [.val (.int (e.1:Nat)),.val (WO (mE a) f dp fw)] q)(h:Q (.list (a.map G))):WR [wy,wz i] (Ct (Hq (Fd (N2 i) "rows"))) (gN 0) DA m σ Q:=by
 have o:(mE a).length=a.length:=by unfold mE;rw[aC]
 have c:(jZ [wy,wz i] σ)=[.un,.val (WO (mE a) f dp fw)]:=by
  unfold jZ;simp[JU,b]
 refine iR (λR h=>⟨_,b,_,_,_,_,_,gL,gL,mE a,gL,eH,λs c n=>⟨_,gL,by rw[YH c n g];exact h⟩⟩) (zz a G) (by rw[aC,aC];lia) (λx q p l=>?_) ?_
 ·refine Â (aS.mp p) λ_ j z=>?_;subst z;refine Â (aS.mp j) λe k z=>?_;subst z;rw[TF g G k]at l;rw[c];exact d e k q l
 ·have e:((a.map λe=>(e.1:Int)).map bW).map (zz a G)=a.map G:=by
   rw[bJ,bJ];apply jS;intro e d;exact TF g G d
  rw[e];exact h
theorem LC:∀{ts},(∀t∈ts,ndc t=wx)->ndcA ts=wx
|[],_=>rfl
|a::r,h=>by
 show(ndc a&&ndcA r)=wx;rw[h a (aM ..),LC λt b=>h t (aE _ b)];rfl
def Z1{fs}(h:fT fs (.tuple cs)=wx):ndcA cs=true:=LC λc a=>by
 rcases OB h c a with rfl | ⟨_,_,_,_,rfl⟩
 ·rfl
 ·rfl
def Zh{fs}(h:kJ fs an r):ndc (eJ r)=true:=by
 show(ndcA r.1&&(wx&&wx))=wx;rw[Z1 h.1];rfl
theorem P8:∀t,ndc (jX t)=wx
|.say a=>rfl
|.ask k n v s y m=>by
 show(wx&&(wx&&(wx&&(ndc (jX y)&&(ndc (jX m)&&wx)))))=wx;rw[P8 y,P8 m];rfl
def hI{j:Int}(h:zw ks j):qB (mE ks) j=none:=by
 unfold qB mE;rw[J8,aCm,lR,oM];intro e a z;exact h e a (c6 z)
noncomputable def MU(a:List (Nat×Rw)):List D:=a.map λe=>.int (e.1:Nat)
def Gm{a:List Int}(b:a.Pairwise (·<·))(c:a.Perm ((mE ks).map (·.1)))(d:hM ks):a.map bW=MU ks:=by
 rw[YH b c d,bJ];rfl
def OL.len{fs}{a:List (Nat×Rw)}{f:Nat}(w:OL fs an a f):a.length<=50/\(mE a).length<=60/\(MU a).length=a.length:=by
 have:=w.few;have:=w.f50;refine⟨eH,?_,aC ..⟩;unfold mE;rw[aC];lia
def OL.eq{fs}{f:Nat}(w:OL fs an ks f):ZP (.list (MU ks)) (.list [])/\dW (.list (MU ks)) (.list [])=decide (ks=[]):=by
 have h:Th 1000 1 (.list (MU ks)):=XQ 0 0 50 (λx b=>by
  refine Â (aS.mp b) λe a z=>?_;subst z;have:=w.lt e a;have:=w.f50;exact Xm eH) (by rw[w.len.2.2];exact w.len.1) cS cS
 refine⟨⟨h.lay,gL,bK (vO _ _) gJ⟩,?_⟩
 cases ks with
 |nil=>rfl
 |cons e r=>rfl
def OL.pick{fs}{f:Nat}(w:OL fs an ks f){i:Int}(b:0<=i)(c:i<(MU ks).length):∃k r,L2.atI (MU ks) i=wz (.int (k:Nat))/\qZ k ks=wz r/\kJ fs an r:=by
 refine Å (wN b c) λx d g _=>?_;refine Â (aS.mp d) λe a z=>?_;subst z;exact⟨e.1,e.2,g,LM (KR w.ris) a,w.ok _ (aS.mpr ⟨e,a,gL⟩)⟩
noncomputable def C5(a:List (Nat×Rw))(x:D):Bool:=match x with | .int i=>(qB (mE a) i).isNone | _=>ww
def Yv{j:Int}(h:(qB (mE ks) j).isNone=wx):zw ks j:=λe b z=>by
 have a:qB (mE ks) j=none:=by
  cases g:qB (mE ks) j with
  |none=>rfl
  |some y=>rw[g]at h;cases h
 unfold qB mE at a;rw[J8,aCm,lR,oM]at a;exact a e b (a9 z)
def Xw{F:sZ}{c:TZ F}{t u:SZ F}{τ DC n σ}(P:F.S->List Sl->Prop)(h:∀q,(∀b,q n b)->c τ n σ q)(i:∀d,(∀m a,P m a->d.nx m a)->t τ d n σ)(g:P n σ)(k:∀m a,P m a->u τ DC m a):BO (kS c t MR) u τ DC n σ:=
 W5 (λm _=>m=n) (λq f=>h q λb=>f _ _ gL) (λm e=>by subst e;exact i _ k) (λm e=>by subst e;exact k _ _ g)
def Xv{F:sZ}{c:TZ F}{t e:SZ F}{τ DC n σ}(R:F.S->Prop)(h:∀q,(∀m,R m->q m ww)->c τ n σ q)(d:∀m,R m->e τ DC m σ):kS c t e τ DC n σ:=h (λn1 b=>if b=wx then t τ DC n1 σ else e τ DC n1 σ) λm a=>by
 grind
noncomputable def yn(fs:Fs)(an:List â)(rs:List Rw)(d m:Int)(a:â)(S:Option Ch)(i b c e f g h:Sl):List Sl:=[.val (gM fs an),.val (.list (rs.map eJ)),.val (.int d),.val (.int m),.val (.list ((jU an rs).map bW)),.val (jX (.say a)),.val (Dj fs rs S),.val (.int ((yi fs rs S:Nat):Int)),.val (.int ((xn fs rs S:Nat):Int)),i,b,c,e,f,g,h]
noncomputable def JR(w:â)(x:D):D:=match x with | .tuple ts=>.tuple (.str w::ts) | _=>x
def wu(d:Nat)(l:List D):Prop:=l.length<=2^d/\∀x∈l,∃a,x=.tuple a/\a.length<=d
def wu.cons{d e:Nat}{l:List D}(h:wu d l)(w:â)(k:d<=e):wu (e+1) (l.map (JR w))/\l.length<=2^e:=by
 have:=fH (show 0<2 by decide) k;have:=h.1;refine⟨⟨by rw[aC,RI];lia,λx a=>?_⟩,eH⟩;refine Â (aS.mp a) λy b z=>?_;subst z;refine Â (h.2 y b) λf z c=>?_;subst z;exact⟨_,gL,by rw[bD];lia⟩
def vV(a:Nat):mO:=λb Q=>∃(fs:Fs)(an:List â)(t u:Tr),b=[jX t,jX u]/\eW fs an/\oF fs an t/\oF fs an u/\t.dep<a/\t.dep<=6/\u.dep<=6/\∀l,wu t.dep l->Q (.list l)
def Sn:mO:=vV 7
def ZZ{Q:D->Prop}(h:vV 0 ds Q):False:=by
 refine þ h λ_ _ _ _ _ _ _ _ h _=>?_;lia
def JL(e:GU an R a)(f:GU an R b):a=b:=by
 refine Å e λk d i g=>?_;refine Å f λj c l h=>?_;rcases pR k j with q | rfl | q
 ·have x:=h k a q d;have y:=i j b c;lia
 ·rw[d]at c;cases c;rfl
 ·have x:=g j b q c;have y:=l k a d;lia
theorem LL{fs}{m:Int}:∀(d:Nat){R t u},Gr fs an m d R t->Gr fs an m d R u->t=u
|0,R,t,u,⟨a,f,h⟩,⟨b,g,i⟩=>by rw[h,i,JL f g]
|d+1,R,t,u,f,g=>by
 unfold Gr at f g
 cases e:qI fs R m with
 |none=>
  rw[e]at f g;obtain⟨a,f,h⟩:=f;obtain⟨b,g,i⟩:=g;rw[h,i,JL f g]
 |some c=>
  rw[e]at f g;obtain⟨o,n1,j,k,rfl⟩:=f;obtain⟨p,n,a2,l,rfl⟩:=g;rw[LL d j a2,LL d k l]
structure Nk(k:Nat):Prop where
 num:JC (nF (k:Nat))=wx
 bl:32∉(nF (k:Nat)).cps.toList
 int:intText? (nF (k:Nat))=wz (k:Int)
 asc:yP 9 (nF (k:Nat))
 lg:(k:Int).natAbs.log2<1920
def Xd:∀k∈999999999::gA 61,JC (nF (k:Nat))=wx/\32∉(nF (k:Nat)).cps.toList/\intText? (nF (k:Nat))=wz (k:Int)/\(k:Int).natAbs.log2<1920/\(([nF (k:Nat)]:List â).all λx=>decide (x.length<=9)&&x.cps.toList.all λc=>decide (c<128))=true:=by decide +kernel
def nk{k:Nat}(h:k<61\/k=999999999):Nk k:=by
 refine Á (Xd k (by
  rcases h with h | rfl
  ·exact aE _ (pJ.mpr h)
  ·exact aM ..)) λa b c d e=>?_
 exact⟨a,b,c,rD e,d⟩
noncomputable def tx(a:List â):Str:=Txt.join dO a
structure Wd(ws:List â):Prop where
 ne:ws≠[]
 len:ws.length<=10
 ok:∀w∈ws,32∉w.cps.toList/\yP 9 w
theorem Wd.split(h:Wd a):Txt.split (tx a) dO=a:=by
 cases a with
 |nil=>exact b9 gL h.ne
 |cons w a=>exact zC 32 cS _ _ λx b=>(h.ok x b).1
def Wd.asc(h:Wd ws):yP 1000 (tx ws):=aBy (λw hw=>(h.ok w hw).2) (by
 have:=mP λw hw=>(h.ok w hw).2.len;have:=h.len;lia)
def wX{x:â}(h:ws≠[]):x++" "++tx ws=tx (x::ws):=by
 cases ws with
 |nil=>lia
 |cons w ws=>exact B8 x w ws
def Ea:∀w∈(["put","out","turn","judge","why","tree","rows"]:List â),32∉w.cps.toList/\(([w]:List â).all λx=>decide (x.length<=9)&&x.cps.toList.all λc=>decide (c<128))=true:=by decide +kernel
def Wd.of{w:â}{a:List â}(hw:w∈(["put","out","turn","judge","why","tree","rows"]:List â))(b:a.length<=9)(h:∀w∈a,32∉w.cps.toList/\yP 9 w):Wd (w::a):=⟨gC,by rw[bD];lia,λx hx=>by
 rcases aQ.mp hx with rfl | hx
 ·exact⟨(Ea _ hw).1,rD (Ea _ hw).2⟩
 ·exact h x hx⟩
noncomputable def jH(r:Rw):List Str:=r.1.map sI++[r.2]
def BF{fs:Fs}(F:eW fs an){c:List D}(h:fT fs (.tuple c)=wx):(∀w∈c.map sI,(32∉w.cps.toList/\yP 9 w)/\w≠"")/\(c.map sI).length=fs.length/\fs.length<=3:=by
 refine⟨λw hw=>?_,by rw[aC];exact(mT h).1,F.n3⟩;refine Â (aS.mp hw) λx f v=>?_;subst v;have e:=qF F h x f;refine ñ (Q4 e) λ_ a b=>?_;rcases e with rfl | ⟨z,d,rfl⟩
 ·exact⟨⟨a,rD cR⟩,cR⟩
 ·exact⟨⟨a,eH,LB d⟩,λy=>by rw[show z="" from y]at d;exact b9 d cR⟩
def L6{fs}(F:eW fs an){a:â}(h:a∈an):(32∉a.cps.toList/\yP 9 a)/\a≠"":=by
 refine ñ (rT (F.an.2.1 _ h)) λ_ b c=>?_;exact⟨⟨b,eH,LB (F.an.2.1 _ h)⟩,λy=>by rw[y]at h;exact b9 (F.an.2.1 _ h) cR⟩
def sU{fs}(F:eW fs an)(h:kJ fs an r):(∀w∈jH r,32∉w.cps.toList/\yP 9 w)/\(jH r).length<=4/\jH r≠[]:=by
 refine ñ (BF F h.1) λa b c=>?_;refine⟨λw hw=>?_,by unfold jH;rw[aR];show _+1<=4;lia,by simp[jH]⟩;rcases bM.mp hw with hw | hw
 ·exact(a w hw).1
 ·rw[aU.mp hw];exact(L6 F h.2).1
def FA{fs}(F:eW fs an)(h:kJ fs an r):UX (jH r)=eJ r:=by
 unfold jH;rw[E7,XF (qF F h.1)];rfl
def xN{fs:Fs}{v:List â}(h:v.length≠fs.length):wL fs v=false:=by
 unfold wL fT;grind
def FB{fs:Fs}{an v:List â}(h:v.length≠fs.length):M4 fs an (v++[a])=false:=by rw[AK,xN h,sS]
def G5(fs:Fs)(t:Tr)(a:List D):Str:=Txt.join ", " ((lL fs t a).map nB++[mF fs t a])
structure UC(fs:Fs)(an:List â)(d:Nat)(m:Int)(T:Bk)(ks:List (Nat×Rw))(t:Tr)(f:Nat)(n:HF):Prop where
 rw:OL fs an ks f
 fm:T.fm=gM fs an
 dp:T.dp=(d:Nat)
 ls:T.ls=m
 d4:d<=4
 kv:n.kvs=mE ks
 st:n.st=jX t
 gr:Gr fs an m d (ks.map (·.2)) t
 fol:n.fol=(f:Nat)
def UC.tr{fs}{d:Nat}{m:Int}{t:Tr}{f:Nat}(h:UC fs an d m T ks t f n):oF fs an t/\t.dep<=4:=by
 have:=NY d h.gr;have:=h.d4;lia
abbrev DQ:=HF->â->Prop
def GV(fs:Fs)(an:List â)(d:Nat)(m:Int)(a:List (Nat×Rw))(f:Nat)(n:HF)(e:List â)(Q:DQ):Prop:=
 (∃r,kJ fs an r/\e=("put":â)::jH r/\∀b,Gr fs an m d ((a++[(f,r)]).map (·.2)) b->Q ⟨mE (a++[(f,r)]),((f+1:Nat):Int),jX b⟩ (nF (f:Nat))) \/
 (∃k r,qZ k a=wz r/\e=[("out":â),nF (k:Nat)]/\∀b,Gr fs an m d ((nZ k a).map (·.2)) b->Q ⟨mE (nZ k a),n.fol,jX b⟩ "ok") \/
 (∃k r c,qZ k a=wz r/\kJ fs an c/\e=("turn":â)::nF (k:Nat)::jH c/\∀b,Gr fs an m d ((sM k c a).map (·.2)) b->Q ⟨mE (sM k c a),n.fol,jX b⟩ "ok")
def Dv(fs:Fs)(t:Tr)(n:HF)(w:â)(a:List D)(Q:DQ):Prop:=fT fs (.tuple a)=wx/\(w="judge"/\Q n (mF fs t a)\/w="why"/\Q n (G5 fs t a))
def Du(t:Tr)(a:List (Nat×Rw))(n:HF)(w:â)(Q:DQ):Prop:=(w="tree"/\Q n (jY t))\/(w="rows"/\Q n (rQ a))
def WB(fs:Fs)(an:List â)(d:Nat)(m:Int)(c:List (Nat×Rw))(t:Tr)(f:Nat)(n:HF)(a:List â)(Q:DQ):Prop:=
 GV fs an d m c f n a Q\/(∃w,a=[w]/\Du t c n w Q)\/∃w b,a=w::b.map sI/\Dv fs t n w b Q
def zb(Q:HF->D->Prop):DQ:=λn z=>z.length<=90000->Q n (.str z)
def Lu(c b:à):xX (mM b):=λg n e Q=>∃fs an d m T a t f w,g=lA T/\e=[MI c T,.str w]/\UC fs an d m T a t f n/\Du t a n w (zb Q)
def Lv(c b:à):xX (mM b):=λh n e Q=>∃fs an d m T g t f w a,h=lA T/\e=[MI c T,.str w,.tuple a]/\UC fs an d m T g t f n/\Dv fs t n w a (zb Q)
def Ls(e c:à):xX (mM c):=λh n g Q=>∃fs an d m T a t f b,h=lA T/\g=[MI e T,.list (b.map aI)]/\UC fs an d m T a t f n/\GV fs an d m a f n b (zb Q)
def Ku(e c:à):xX (mM c):=λh n g Q=>∃fs an d m T b t f a,h=lA T/\g=[MI e T,.str (tx a)]/\UC fs an d m T b t f n/\Wd a/\WB fs an d m b t f n a (zb Q)
def yp(fs:Fs)(an:List â)(c:List (Nat×Rw))(a:List â)(b:Bool):Prop:=
 (∃v,a=("put":â)::v/\M4 fs an v=ww/\b=wx) \/
 (∃k v r,qZ k c=wz r/\Nk k/\a=("turn":â)::nF (k:Nat)::v/\M4 fs an v=ww/\b=wx) \/
 (∃k v,qZ k c=wy/\Nk k/\(a=[("out":â),nF (k:Nat)]\/a=("turn":â)::nF (k:Nat)::v)/\b=ww)
def Af(fs:Fs)(an:List â)(c:List (Nat×Rw))(a:List â)(b:Bool):Prop:=yp fs an c a b\/∃(w:â)(v:List â),(w="judge"\/w="why")/\a=w::v/\wL fs v=ww/\b=wx
def BT(c b e h:à):xX (mM b):=λg n f d=>∃fs an T w a,g=lA T/\f=[MI c T,.str w,.tuple (a.map ER)]/\eW fs an/\T.fm=gM fs an/\(∀y∈a,yP 9 y)/\wL fs a=ww/\d n (xM e)
def X5(e d g h:à):xX (mM d):=λj n i f=>∃fs an T c a b,j=lA T/\i=[MI e T,.list (a.map aI)]/\eW fs an/\T.fm=gM fs an/\n.kvs=mE c/\Wd a/\yp fs an c a b/\f n (xM (if b=wx then g else h))
def aDk(e d g h:à):xX (mM d):=λj n i f=>∃fs an T c a b,j=lA T/\i=[MI e T,.str (tx a)]/\eW fs an/\T.fm=gM fs an/\n.kvs=mE c/\Wd a/\Af fs an c a b/\f n (xM (if b=wx then g else h))
def sO(f C b g:à):xX (mM C):=λe n c a=>∃fs an T d,e=lA T/\c=[lA T,d]/\eW fs an/\T.fm=gM fs an/\Cd d/\A2 fs an d=ww/\a n (xM b)
def pV(e C f b:à):xX (mM C):=λd n c a=>∃T j,d=lA T/\c=[lA T,.int j]/\qB n.kvs j=wy/\a n (xM b)
def aDl(a C b c:à):xX (mM C):=sO a C b c
def aDm(a C b c:à):xX (mM C):=pV a C b c
def X4(h C b c:à):xX (mM C):=λg n f a=>∃fs an T j d,g=lA T/\f=[lA T,.int j,d]/\eW fs an/\T.fm=gM fs an/\Cd d/\((qB n.kvs j=wy/\a n (xM c))\/(∃e,qB n.kvs j=wz e/\A2 fs an d=ww/\a n (xM b)))
noncomputable def yg(b:Bool):Str:=if b=wx then "row" else "such"
def To(g e:à):xX (mM e):=λj n h Q=>∃fs an d m T c t f a,j=lA T/\h=[MI g T,.str (tx a)]/\UC fs an d m T c t f n/\Wd a /\
 ((∃b,Af fs an c a b/\Q n (.str (yg b)))\/WB fs an d m c t f n a λi z=>z.length<=90000->Q i (.str ("told "++z)))
def vS(a:Nat):mO:=λb Q=>∃fs an t,b=[jX t]/\eW fs an/\oF fs an t/\t.dep<a/\t.dep<=6/\Q (.str (jY t))
def Tl:mO:=vS 7
def ZW{Q:D->Prop}(h:vS 0 ds Q):False:=by
 refine Ú h λ_ _ _ _ _ _ h _=>?_;lia
def Tn:mO:=λb Q=>∃fs an t a,b=[gM fs an,jX t,.tuple a]/\eW fs an/\oF fs an t/\fT fs (.tuple a)=wx/\t.dep<=4/\Q (.str (G5 fs t a))
def Us:mO:=λb Q=>∃fs an a f d g m,b=[gM fs an,WO (mE a) g (d:Nat) m]/\OL fs an a f/\d<=4/\1<=m/\∀t,Gr fs an m d (a.map (·.2)) t->Q (jX t)
def Ut:mO:=λb Q=>∃fs an a f g dp fw,b=[WO (mE a) g dp fw]/\OL fs an a f/\Q (.str (rQ a))
structure OP(fs:Fs)(an:List â)(L M:List â):Prop where
 len:L.length<=5
 ok:∀w∈L,32∉w.cps.toList/\yP 9 w
 cut:L=M\/L=M++[("":â)]
 last:∀(v:List â)(w:â),M=v++[w]->w≠""
 no:M4 fs an M=ww
def Tq:mO:=λa Q=>∃ns fs an r,a=[jP ns,gM fs an,eJ r]/\ns.length<=63/\eW fs an/\kJ fs an r/\∀L M,OP fs an L M->Q (.str (tx L))
def Ts:mO:=λa Q=>∃ns fs an r,a=[jP ns,eJ r]/\ns.length<=63/\eW fs an/\kJ fs an r/\∀(w:â)(v:List â),(w="judge"\/w="why")->wL fs v=ww->Wd (w::v)->Q (.str (tx (w::v)))
def Uq:mO:=λd Q=>∃ns fs an a f dp fw,d=[jP ns,gM fs an,WO (mE a) (f:Nat) dp fw]/\ns.length<=63/\OL fs an a f/\f<=50/\∀c b,Af fs an a c b->Wd c->Q (.tuple [.str (tx c),.str (yg b)])
def Bn(fs:Fs)(an:List â)(b:List (Nat×Rw))(t:Tr)(f:Nat)(c:List â)(z:â)(a:List (Nat×Rw))(e:Nat):Prop:=
 (∃r,kJ fs an r/\c=("put":â)::jH r/\z=nF (f:Nat)/\a=b++[(f,r)]/\e=f+1) \/
 (∃k r,qZ k b=wz r/\c=[("out":â),nF (k:Nat)]/\z="ok"/\a=nZ k b/\e=f) \/
 (∃k r g,qZ k b=wz r/\kJ fs an g/\c=("turn":â)::nF (k:Nat)::jH g/\z="ok"/\a=sM k g b/\e=f) \/
 (a=b/\e=f/\((c=[("tree":â)]/\z=jY t)\/(c=[("rows":â)]/\z=rQ b)\/∃w d,fT fs (.tuple d)=wx/\c=w::d.map sI/\(w="judge"/\z=mF fs t d\/w="why"/\z=G5 fs t d)))
def Ur:xX IC:=λh n g Q=>∃ns fs an d m T b t f,h=vL T/\g=[jP ns,gM fs an,vL T]/\ns.length<=63/\OL fs an b f/\n=⟨mE b,(f:Nat)⟩/\T.dp=(d:Nat)/\T.fw=m/\d<=4/\1<=m/\f<=49/\Gr fs an m d (b.map (·.2)) t /\
 ∀e z a c,Bn fs an b t f e z a c->Q ⟨mE a,(c:Nat)⟩ (.tuple [.str (tx e),.str ("told "++z)])
def IG{x:â}{k:Nat}(b:x.cps.toList=L++yQ k 32)(e:∀v c,L=v++[c]->c≠32):(Txt.rstripChars x dO).cps.toList=L:=by
 have d:∀c,dO.cps.contains c=decide (c=32):=λc=>by
  have:dO.cps=#[32]:=rfl
  grind
 have j:L.reverse.takeWhile dO.cps.contains=[]:=by
  rcases xH L with rfl | ⟨v,c,rfl⟩
  ·rfl
  ·simp_all
 have hw:((x.cps.toList.drop 0).reverse.takeWhile dO.cps.contains).length=k:=by
  rw[pK,b,WG,List.reverse_replicate,List.takeWhile_append_of_pos λa f=>by rw[d,List.eq_of_mem_replicate f];rfl,j,cM,xS]
 have i:x.cps.toList.length=x.length:=by simp[o4]
 have l:x.length=L.length+k:=by rw[<- i,b,aR,xS]
 have g:cy dO.cps.contains wx x 0=L.length:=by
  show x.length-((x.cps.toList.drop 0).reverse.takeWhile dO.cps.contains).length=_;lia
 show(if(0==0&&cy dO.cps.contains wx x 0==x.length)=wx then x else Builtin.Str.strSub x 0 (cy dO.cps.contains wx x 0)).cps.toList=L;rw[g];split
 ·simp_all
 ·rw[StrLaws.strSub_toList,b,pK,sJ,J6]
noncomputable def FF(M:List â):Str:=if M=[]then "" else " "++tx M
def Y0(x:â)(M:List â):x++FF M=tx (x::M):=by
 unfold FF;split
 ·next h=>subst h;rfl
 ·next h=>rw[<- pM];exact wX h
def RO(h:M≠[])(w:â):(tx (M++[w])).cps.toList=(tx M).cps.toList++32::w.cps.toList:=by
 cases M with
 |nil=>lia
 |cons y M=>
  unfold tx;rw[lI,lI,cC,aX,List.map_singleton];exact F0 32 _ _ _ []
def OP.strip{fs}(h:OP fs an L M):Txt.rstripChars (" "++tx L) dO=FF M:=by
 obtain⟨_,hok,cut,last,_⟩:=h;rcases xH M with rfl | ⟨v,w,rfl⟩
 ·refine pO (IG (k:=1) ?_ λv c z=>?_)
  ·rcases cut with rfl | rfl<;>decide +kernel
  ·have:([]:List Nat)=v++[c]:=z;grind
 ·have ne:v++[w]≠[]:=by simp
  have e:FF (v++[w])=" "++tx (v++[w]):=a8 ne;refine pO (IG (k:=if L=v++[w]then 0 else 1) ?_ λu c z=>?_)
  ·rw[e];by_cases y:L=v++[w]
   ·grind
   ·rw[a8 y,cut.resolve_left y,lY,lY,RO ne];rfl
  ·have pre:∃p,(FF (v++[w])).cps.toList=p++w.cps.toList:=by
    rw[e,lY];by_cases y:v=[]
    ·subst y;exact⟨_,gL⟩
    ·rw[RO y];exact⟨(" ":â).cps.toList++(tx v).cps.toList++[32],gC⟩
   refine Ã pre λp a=>?_;rw[a]at z;refine À ((xH w.cps.toList).resolve_left (λz=>last v w gL (pO z))) λb d hd=>?_;rw[hd,<- fC]at z;have:=(aCq z gL).2;grind
noncomputable def K9:List Str:=["zzzzzzzzz","","None","0","--","A"]
def K8:∀o∈K9,32∉o.cps.toList/\tR o=ww/\o≠"-"/\(([o]:List â).all λx=>decide (x.length<=9)&&x.cps.toList.all λc=>decide (c<128))=true:=by decide +kernel
section
variable{fs:Fs}{an:List â}{o:â}{j:Nat}
def NG(F:eW fs an){u:List â}(g:u.length=fs.length)(c:o∈K9)(f:j<u.length):wL fs (u.take j++[o]++u.drop (j+1))=false:=aCd.mpr λz=>by
 refine Ô (K8 o c) λ_ b e _=>?_;refine Ä (mT z) λ_ d=>?_;have a:fs[j]?=wz (fs[j]' eH):=aL eH
 have:=d j _ (ER o) a (by
  rw[aO,fC,dY (by rw[bH];lia),bH,show j-min j u.length=0 by lia];rfl)
 rw[Xg (Xe F _ (aZ a)),b8 e,BL]at this;rw[F.vals (aZ a) o (c6 this)]at b;cases b
noncomputable def xr(u:List â)(a o:â)(j:Nat):List (List â):=[u,u++[a]++[a],(u++[a]).take j++[o]++(u++[a]).drop (j+1),(u++[a]).drop 1,[],u++[("-":â)]]
def V7{r:Rw}(F:eW fs an)(h:kJ fs an r)(p:o∈K9)(g:j<(jH r).length):∀L∈xr (r.1.map sI) r.2 o j,∃M,OP fs an L M:=by
 have n1:=F.n1;refine Ô (K8 o p) λm G J n=>?_;refine ñ (BF F h.1) λb c K=>?_;refine Ä (L6 F h.2) λf i=>?_;unfold jH at g
 generalize r.1.map sI=u at *
 generalize r.2=a at *
 have nb:∀z:â,tR z=ww->z∉an:=λz q C=>by rw[F.an.2.1 z C]at q;cases q
 have d:∀{v:List â}{z:â},(∀w∈v,32∉w.cps.toList/\yP 9 w)->(32∉z.cps.toList/\yP 9 z)->v.length<=4->z≠""->M4 fs an (v++[z])=ww->OP fs an (v++[z]) (v++[z]):=λ{v z} s t I A B=>⟨by rw[aR];show _+1<=5;lia,λw hw=>(bM.mp hw).elim (s w) λy=>by rw[aU.mp y];exact t,.inl gL,λN O e=>by
  have:=(aCq e gL).2;injection this with this
  rw[<- this];exact A,B⟩
 have H:∃v w,u=v++[w]:=(xH u).resolve_left λz=>by rw[z]at c;simp at c;lia
 have k:OP fs an u u:=by
  refine À H λv w Z=>?_;subst Z;rw[aR]at c;have c:v.length+1=fs.length:=c;exact d (λx E=>(b x (eG _ E)).1) (b w gC).1 eH (b w gC).2 (FB eH)
 intro L l;unfold xr at l;simp only[aQ,cP,i6]at l;rw[aR]at g;have g:j<u.length+1:=g;rcases l with rfl | rfl | rfl | rfl | rfl | rfl
 ·exact⟨_,k⟩
 ·refine⟨_,d (λw hw=>(bM.mp hw).elim (λy=>(b w y).1) λy=>by rw[aU.mp y];exact f) f ?_ i (FB ?_)⟩<;>rw[aR]
  ·show _+1<=4;lia
  ·show _+1≠_;lia
 ·by_cases y:j<u.length
  ·rw[GX eH,List.drop_append_of_le_length eH,<- fC];refine⟨_,d (λw hw=>?_) f ?_ i (by rw[AK,NG F c p y,sS])⟩
   ·rcases bM.mp hw with hw | hw
    ·rcases bM.mp hw with hw | hw
     ·exact(b w (dX hw)).1
     ·rw[aU.mp hw];exact⟨m,rD n⟩
    ·exact(b w (qV hw)).1
   ·rw[aR,aR,bH,dF];show _+1+_<=4;lia
  ·obtain rfl:j=u.length:=by lia
   rw[J6,pL (by rw[aR];exact aP _),cM];by_cases z:o=""
   ·subst z;exact⟨u,by rw[aR];show _+1<=5;lia,λw hw=>(bM.mp hw).elim (λy=>(b w y).1) λy=>by rw[aU.mp y];exact⟨m,rD n⟩,.inr gL,k.last,k.no⟩
   ·exact⟨_,d (λw hw=>(b w hw).1) ⟨m,rD n⟩ eH z (by rw[AK,b8 (nb o G),KA])⟩
 ·cases u with
  |nil=>simp at c;lia
  |cons x u=>exact⟨_,d (v:=u) (λw hw=>(b w (aE _ hw)).1) f (by rw[bD]at c;lia) i (FB (by rw[bD]at c;lia))⟩
 ·exact⟨[],cS,λw hw=>(by cases hw),.inl gL,(λv w e=>by simp at e),gL⟩
 ·exact⟨_,d (λw hw=>(b w hw).1) ⟨cR,rD cR⟩ eH cR (by rw[AK,b8 (nb "-" cR),KA])⟩
noncomputable def V8(u:List â)(a o:â)(j:Nat):List (List â):=[u.dropLast,u++[("-":â)],u.take j++[o]++u.drop (j+1),u++[a],[]]
def aBu{r:Rw}(F:eW fs an)(h:kJ fs an r)(d:o∈K9)(f:j<(r.1.map sI).length):∀v∈V8 (r.1.map sI) r.2 o j,wL fs v=ww/\v.length<=9/\∀w∈v,32∉w.cps.toList/\yP 9 w:=by
 refine Ô (K8 o d) λi p q k=>?_;refine ñ (BF F h.1) λb m s=>?_;refine Ä (L6 F h.2) λe n=>?_
 generalize r.1.map sI=u at *
 generalize r.2=a at *
 have one:∀{z:â},(32∉z.cps.toList/\yP 9 z)->wL fs (u++[z])=ww/\(u++[z]).length<=9/\∀w∈u++[z],32∉w.cps.toList/\yP 9 w:=λ{z} g=>by
  have l:(u++[z]).length=u.length+1:=by rw[aR];rfl
  exact⟨xN eH,eH,λw hw=>(bM.mp hw).elim (λy=>(b w y).1) λy=>by rw[aU.mp y];exact g⟩
 intro v c;unfold V8 at c;simp only[aQ,cP,i6]at c;rcases c with rfl | rfl | rfl | rfl | rfl
 ·exact⟨xN (by rw[UI];lia),by rw[UI];lia,λw hw=>(b w ((List.dropLast_sublist u).subset hw)).1⟩
 ·exact one ⟨cR,rD cR⟩
 ·refine⟨NG F m d f,?_,λw hw=>?_⟩
  ·rw[aR,aR,bH,dF];show _+1+_<=9;lia
  ·rcases bM.mp hw with hw | hw
   ·rcases bM.mp hw with hw | hw
    ·exact(b w (dX hw)).1
    ·rw[aU.mp hw];exact⟨i,rD k⟩
   ·exact(b w (qV hw)).1
 ·exact one e
 ·exact⟨xN (by simp;lia),gC,λw hw=>by cases hw⟩
end
def OP.tl{fs}{an L M:List â}(h:OP fs an L M):(tx L).length<=50/\M.length<=5/\∀w∈M,32∉w.cps.toList/\yP 9 w:=by
 have a:dO.length=1:=rfl
 have j:=yG dO L;have s:=mP λw hw=>(h.ok w hw).2.len;have l:=h.len;rw[a]at j
 have b:M.length<=L.length/\∀w∈M,w∈L:=by
  rcases h.cut with e | e<;>rw[e]
  ·lia
  ·grind
 exact⟨bK j eH,eH,λw hw=>h.ok w (b.2 w hw)⟩
def aD0{M:List â}(h:M.length<=5)(k:∀w∈M,32∉w.cps.toList/\yP 9 w):(FF M).length<=60:=by
 have a:dO.length=1/\(" ":â).length=1/\("":â).length=0:=by decide +kernel
 have j:=yG dO M;have s:=mP λw hw=>(k w hw).2.len;rw[a.1]at j;have j:(tx M).length<=_:=j;unfold FF;split
 ·lia
 ·rw[oP,a.2.1];lia
def aCu(w x:â)(M:List â):w++" "++x++FF M=tx (w::x::M):=by rw[pM,Y0];exact wX gC
def TD{k:Nat}(h:zw ks (k:Int)):qZ k ks=none:=by
 unfold qZ;rw[lR,oM];intro e a z;have:=h e a;lia
def Yl{fs}(F:eW fs an)(h:fT fs (.tuple cs)=wx):Cd (.tuple cs):=(BS 45 1 6 (N:=300) (M:=2) (GL F h cS) (by have:=(mT h).1;have:=F.n5;lia) cS cS).cd cS
def Cv(r:List â):qR (("put":â)::r)=true:=by
 rfl
def S3{w:â}(h:w="judge"\/w="why")(r:List â):qR (w::r)=true:=by
 have d:∀w∈(["judge","why"]:List â),w∉(["tree","rows","rules","steps"]:List â)/\w≠"out"/\w≠"turn"/\w∈(["put","judge","why"]:List â):=by decide +kernel
 have d:=d w (by grind);unfold qR;rw[oH,a8 d.1,a8 d.2.1,a8 d.2.2.1,a9 d.2.2.2]
def FW{k:Nat}(h:Nk k)(v:List â):qR [("out":â),nF (k:Nat)]=wx/\qR (("turn":â)::nF (k:Nat)::v)=true:=by
 have d:("out":â)∉(["tree","rows","rules","steps"]:List â)/\("turn":â)∉(["tree","rows","rules","steps"]:List â)/\("turn":â)≠"out":=by decide +kernel
 unfold qR;rw[oH,a8 d.1,b7 gL,oH,a8 d.2.1,a8 d.2.2,b7 rfl];exact⟨h.num,by rw[aIi,oH,h.num,a9 gC];rfl⟩
def Dn(a:List â):Prop:=∃w r,a=w::r/\w∉(["tree","rows","rules","steps"]:List â)/\w∉(["judge","why"]:List â)/\qR (w::r)=wx
def Ci:∀w∈(["put","out","turn"]:List â),w∉(["tree","rows","rules","steps"]:List â)/\w∉(["judge","why"]:List â):=by decide +kernel
def Dn.of{w:â}(h:w∈(["put","out","turn"]:List â))(i:qR (w::r)=wx):Dn (w::r):=⟨w,r,gL,(Ci w h).1,(Ci w h).2,i⟩
theorem OL.nk{fs}{f:Nat}(w:OL fs an ks f){k:Nat}(h:qZ k ks=wz r):Nk k:=K72.nk (.inl (by
 have:=w.lt _ (F7 h);have:=w.f50;lia))
def GV.dn{fs}{d:Nat}{m:Int}{f:Nat}(w:OL fs an ks f)(h:GV fs an d m ks f n ws Q):Dn ws:=by
 rcases h with⟨r,_,rfl,_⟩ | ⟨k,r,a,rfl,_⟩ | ⟨k,r,b,a,_,rfl,_⟩
 ·exact .of gC (Cv _)
 ·exact .of gC (FW (w.nk a) []).1
 ·exact .of gC (FW (w.nk a) _).2
def yp.dn{fs}{b:Bool}(h:yp fs an ks ws b):Dn ws:=by
 rcases h with⟨v,rfl,_⟩ | ⟨k,v,r,_,a,rfl,_⟩ | ⟨k,v,_,a,rfl | rfl,_⟩
 ·exact .of gC (Cv _)
 ·exact .of gC (FW a _).2
 ·exact .of gC (FW a []).1
 ·exact .of gC (FW a _).2
def GV.mono{fs}{d:Nat}{m:Int}{f:Nat}{Q R:DQ}(g:∀n z,Q n z->R n z)(h:GV fs an d m ks f n ws Q):GV fs an d m ks f n ws R:=by
 rcases h with⟨r,a,b,h⟩ | ⟨k,r,a,b,h⟩ | ⟨k,r,i,a,b,c,h⟩
 ·exact .inl ⟨r,a,b,λt e=>g _ _ (h t e)⟩
 ·exact .inr (.inl ⟨k,r,a,b,λt e=>g _ _ (h t e)⟩)
 ·exact .inr (.inr ⟨k,r,i,a,b,c,λt e=>g _ _ (h t e)⟩)
theorem WB.mono{fs}{d:Nat}{m:Int}{f:Nat}{Q R:DQ}(g:∀n z,Q n z->R n z)(h:WB fs an d m ks t f n ws Q):WB fs an d m ks t f n ws R:=by
 rcases h with h | ⟨w,e,h⟩ | ⟨w,a,e,b,h⟩
 ·exact .inl (h.mono g)
 ·exact .inr (.inl ⟨w,e,h.imp (λh=>⟨h.1,g _ _ h.2⟩) λh=>⟨h.1,g _ _ h.2⟩⟩)
 ·exact .inr (.inr ⟨w,a,e,b,h.imp (λh=>⟨h.1,g _ _ h.2⟩) λh=>⟨h.1,g _ _ h.2⟩⟩)
def xo{K}{C:à}{d:List à}{w:â}{f:DB}(k:eY K (.ref C) (.type "ValueError")=wz wx)(i:d.length<=100)(j:lD K (.ref C) (d.map d7)=wz ww)(h:f.nx [a,b,.val (.str w),.val (xM C)]) :
  lS (Co (GN (yt K (.type "ValueError") (N2 3))) (Ai (GN (TU K d (N2 3))))) (KP 2 (eC (.str w))) pW f [a,b,c,.val (xM C)]:=by
 refine B2 (λb=>b=wx) (λq e=>⟨_,gL,C,.none,wx,gL,k,?_⟩) (λ_=>?_) λg=>by cases g
 ·show(if wx=wx then _ else _);rw[b7 rfl];exact⟨_,gL,C,.none,ww,gL,bK i gJ,j,e _ gL⟩
 ·exact sP (.str w) (λq e=>e) h
theorem AE{fs}(F:eW fs an)(a:fT fs (.tuple cs)=wx):∀{t},oF fs an t->∀x∈lL fs t cs,∃k n v s,x=.tuple [.tuple [.str k,.str n,.str v],.str s]/\∀z∈([n,k,v,s]:List â),tR z=wx
|.say _,_,x,hx=>by cases hx
|.ask k n v s y m,ht,x,hx=>by
 have hw:=nW F (.ask k n v s y m) ht;rcases aQ.mp hx with rfl | hx
 ·refine⟨k,n,v,_,gL,λz hz=>?_⟩;have b:∀z∈([n,k,v]:List â),tR z=true:=λz hz=>hw z (bM.mpr (.inl (aE _ (eG [s] hz))));rcases bM.mp (show z∈[n,k,v]++[eD fs k n v s cs]from hz)with hz | hz
  ·exact b z hz
  ·rw[aU.mp hz];rcases D3 F ht.1 ht.2.1 a with e | e<;>rw[e]<;>decide +kernel
 ·by_cases e:eD fs k n v s cs="yes"
  ·rw[b7 e]at hx;exact AE F a ht.2.2.1 x hx
  ·rw[a8 e]at hx;exact AE F a ht.2.2.2 x hx
def RK{fs}(F:eW fs an)(q:fT fs (.tuple cs)=wx){t:Tr}(d:oF fs an t)(hd:t.dep<=4):(((lL fs t cs).map nB++[mF fs t cs]).map (·.length)).sum+((lL fs t cs).map nB++[mF fs t cs]).length*(", ":â).length<=1000/\(G5 fs t cs).length<=1000/\(mF fs t cs).length<=8/\Txt.split (G5 fs t cs) ", "=(lL fs t cs).map nB++[mF fs t cs]:=by
 have p:=L5 F cs d;have C:=AD (fs:=fs) t cs;have c:dO.length=1/\(", ":â).length=2:=by decide +kernel
 have nm:∀{t:Tr},oF fs an t->tR (mF fs t cs)=true:=λ{t}=>by
  induction t with
  |say a=>exactλh=>F.an.2.1 _ h
  |ask k n v s y m u r=>
   intro h;show tR (if eD fs k n v s cs="yes" then mF fs y cs else mF fs m cs)=wx;split
   ·exact u h.2.2.1
   ·exact r h.2.2.2
 have no:∀{z:â},tR z=wx->44∉z.cps.toList:=λhz b=>b9 ((AU hz).2.2 44 b) cR
 have all:∀z∈(lL fs t cs).map nB++[mF fs t cs],z.length<=40/\44∉z.cps.toList:=λz hz=>by
  rcases bM.mp hz with hz | hz
  ·refine Â (aS.mp hz) λx e Z=>?_;subst Z;refine Ê ((AE F q d) x e) λk n v s Z i=>?_;subst Z;have j:=yG dO [n,k,v,s];rw[c.1]at j;refine⟨bK j (bK (Nat.add_le_add_right (mP (n:=8) λz f=>(rT (i z f)).2.2) _) gJ),λb=>?_⟩;rcases FZ b with b | ⟨w,hw,b⟩
   ·exact b9 b cR
   ·exact no (i w hw) b
  ·rw[aU.mp hz];exact⟨eH,no (nm d)⟩
 have A:=mP λz hz=>(all z hz).1;have g:=yG ", " ((lL fs t cs).map nB++[mF fs t cs]);rw[c.2]at g;have l:((lL fs t cs).map nB++[mF fs t cs]).length=(lL fs t cs).length+1:=by rw[aR,aC];rfl
 rw[l]at A g;refine⟨by rw[c.2,l];lia,bK g eH,p,?_⟩;unfold G5;have ne:(lL fs t cs).map nB++[mF fs t cs]≠[]:=by simp
 generalize (lL fs t cs).map nB++[mF fs t cs]=L at all ne
 have o:(", ":â)=⟨[44,32].toArray⟩:=by decide +kernel
 cases L with
 |nil=>exact b9 gL ne
 |cons w B=>rw[o];exact CV cR cS cS w B λx e=>(all x e).2
def Xx{F:sZ}{c:TZ F}{t u:SZ F}{τ DC n σ}(C:Prop)(P:F.S->List Sl->Prop)(h:∀q,(∀b,(b=wx->C)->q n b)->c τ n σ q)(i:C->∀d,(∀m a,P m a->d.nx m a)->t τ d n σ)(g:P n σ)(k:∀m a,P m a->u τ DC m a):BO (kS c t MR) u τ DC n σ:=
 W5 (λm b=>m=n/\(b=wx->C)) (λq f=>h q λb hb=>f _ _ ⟨gL,hb⟩) (λm e=>by obtain⟨rfl,e⟩:=e;exact i (e gL) _ k) (λm e=>by obtain⟨rfl,_⟩:=e;exact k _ _ g)
def Xc(b:List (Nat×Rw)):ndc (.list (MU b))=true:=LC λx a=>by
 refine Â (aS.mp a) λ_ _ z=>?_;subst z
 rfl
def KG{x w:â}(e:x=w++" ")(h:ws≠[]):x++tx ws=tx (w::ws):=by rw[e];exact wX h
theorem Bn.ok{fs}{d:Nat}{m:Int}{f o:Nat}(W:UC fs an d m T ks t f n)(h:Bn fs an ks t f ws z ks' o)(B:f<=49):Wd ws/\o<=f+1/\∀Q,(∀q j,UC fs an d m T ks' j o q->Q q z)->WB fs an d m ks t f n ws Q:=by
 have w:=W.rw;have F:=w.F;have few:=w.few;have mk:∀{ks'}{o:Nat}{q:HF}{j},OL fs an ks' o->q.kvs=mE ks'->q.st=jX j->q.fol=(o:Nat)->Gr fs an m d (ks'.map (·.2)) j->UC fs an d m T ks' j o q:=λr a b c g=>⟨r,W.fm,W.dp,W.ls,W.d4,a,b,g,c⟩
 have num:∀{k r}{V:List â},qZ k ks=wz r->(∀w∈V,32∉w.cps.toList/\yP 9 w)->∀x∈nF (k:Nat)::V,32∉x.cps.toList/\yP 9 x:=λl E x hx=>by
  rcases aQ.mp hx with rfl | hx
  ·exact⟨(w.nk l).bl,(w.nk l).asc⟩
  ·exact E x hx
 have no:∀x∈([]:List â),32∉x.cps.toList/\yP 9 x:=λx hx=>by cases hx
 rcases h with⟨r,p,rfl,rfl,rfl,rfl⟩ | ⟨k,r,l,rfl,rfl,rfl,rfl⟩ | ⟨k,r,v,l,p,rfl,rfl,rfl,rfl⟩ | ⟨rfl,rfl,h⟩
 ·refine ñ (sU F p) λH v _=>?_;refine⟨.of gC eH H,aP _,λQ i=>.inl (.inl ⟨r,p,gL,λj s=>i _ j (mk ⟨F,IH w.ok p,YI w.ris w.lt r,λe he=>?_,by rw[aR];show _+1<=_;lia,eH⟩ gL gL gL s)⟩)⟩;rcases bM.mp he with he | he
  ·have:=w.lt e he;lia
  ·rw[aU.mp he];exact nN _
 ·exact⟨.of gC gC (num l no),pB _,λQ i=>.inl (.inr (.inl ⟨k,r,l,gL,λj s=>i _ j (mk ⟨F,II w.ok,w.ris.filter _,λe he=>w.lt e (cW.mp he).1,bK (cH _ _) few,w.f50⟩ gL gL W.fol s)⟩))⟩
 ·refine ñ (sU F p) λG K _=>?_;refine⟨.of gC (by rw[bD];lia) (num l G),pB _,λQ i=>.inl (.inr (.inr ⟨k,r,v,l,p,gL,λj s=>i _ j (mk ⟨F,YG w.ok p,?_,λe he=>?_,by rw[XM];exact few,w.f50⟩ gL gL W.fol s)⟩))⟩
  ·unfold hM sM;rw[pI];exact w.ris.imp λh=>by rw[ES,ES];exact h
  ·refine Â (aS.mp he) λA C Z=>?_;subst Z;rw[ES];exact w.lt A C
 ·rcases h with⟨rfl,rfl⟩ | ⟨rfl,rfl⟩ | ⟨J,y,u,rfl,h⟩
  ·exact⟨.of gC gC no,pB _,λQ i=>.inr (.inl ⟨_,gL,.inl ⟨gL,i n t W⟩⟩)⟩
  ·exact⟨.of gC gC no,pB _,λQ i=>.inr (.inl ⟨_,gL,.inr ⟨gL,i n t W⟩⟩)⟩
  ·refine ñ (BF F u) λI M L=>?_;refine⟨.of (by rcases h with⟨rfl,_⟩ | ⟨rfl,_⟩<;>simp) eH λx hx=>(I x hx).1,pB _,λQ i=>.inr (.inr ⟨J,y,gL,u,?_⟩)⟩;rcases h with⟨rfl,rfl⟩ | ⟨rfl,rfl⟩
   ·exact .inl ⟨gL,i n t W⟩
   ·exact .inr ⟨gL,i n t W⟩
def XD{w:â}(h:w∈(["put","out","turn","judge","why","tree","rows"]:List â)):Wd [w]:=.of h gC λx a=>by cases a
def E1:mO:=λa Q=>∃ns:List Int,a=[.list (ns.map bW)]/\ns.length<=63/\Q (.bool wx)
set_option maxHeartbeats 4000000
open PySem L2 TL
def Oy:bS ["field"] ["field"] (aV (top 14)):=lU
def Ow:bS ["form","thing","fields"] ["form","thing"] (aV (top 12)):=lU
def Ox:bS ["form","thing"] ["form","thing"] (aV (top 13)):=lU
def Pq:bS ["tree"] ["tree"] (aV (top 42)):=lU
def Kt:bS ["self"] ["self"] (aV (iK (top 51) 4)):=lU
def Ot:bS ["self"] ["self"] (aV (iK (top 51) 5)):=lU
def X8:bS ["self","number"] ["self","number"] (aV (iK (top 51) 7)):=lU
def Gd:bS ["self","thing"] ["self","thing"] (aV (iK (top 51) 6)):=lU
def Ou:bS ["self","stood"] ["self"] (aV (iK (top 51) 8)):=lU
def Ax:bS ["self","row","number"] ["self","row"] (aV (iK (top 51) 1)):=lU
def Ay:bS ["self","number","row"] ["self","number"] (aV (iK (top 51) 2)):=lU
def Az:bS ["self","number","row","stood"] ["self","number","row"] (aV (iK (top 51) 3)):=lU
def Ks:bS ["self","form","deep","least"] ["self","form","deep","least"] (aV (iK (top 51) 0)):=lU
def Ov:bS ["thing","fewest","most"] ["thing","fewest","most"] (aV (top 10)):=lU
def Qf:bS ["_law_script","_law_way"] ["_law_script"] (aV (top 89)):=lU
def Qg:bS ["_law_tape_here","_law_many","_law_script","_law_spot","_law_cell","_law_left","_law_mixed"] ["_law_tape_here","_law_many"] (aV (top 90)):=lU
def Qh:bS ["_law_tape_here","_law_many","_law_letters","_law_way","_law_some","_law_turn","_law_base","_law_size","_law_names_here","_law_at","_law_start"] ["_law_tape_here","_law_many"] (aV (top 91)):=lU
def Qi:bS ["_law_tape_here","_law_fields","_law_values","_law_many","_law_names_here","_law_some","_law_k","_law_size","_law_words"] ["_law_tape_here","_law_fields","_law_values"] (aV (top 92)):=lU
def Qu:bS ["question","field"] ["question","field"] (aV (top 32)):=lU
def Qs:bS ["form","question"] ["form","question"] (aV (top 30)):=lU
def Qt:bS ["question","stray","field"] ["question","stray","field"] (aV (top 31)):=lU
def Qr:bS ["form","question","stray","case","number"] ["form","question","stray","case"] (aV (top 29)):=lU
def Qw:bS ["side","sides"] ["side","sides"] (aV (top 34)):=lU
def Qv:bS ["form","question","stray","rows","sides"] ["form","question","stray","rows"] (aV (top 33)):=lU
def Oz:bS ["form","rows","told"] ["form","rows"] (aV (top 16)):=lU
def OK:bS ["form","rows","counts"] ["form","rows"] (aV (top 17)):=lU
def Pc:bS ["one","other","rest"] ["one","other"] (aV (top 20)):=lU
def Pb:bS ["top","bottom","shared"] ["top","bottom"] (aV (top 19)):=lU
def Pa:bS ["form","rows","many"] ["form","rows"] (aV (top 18)):=lU
def Qy:bS ["rows","numbers"] ["rows","numbers"] (aV (top 38)):=lU
def Ph:bS ["field","name","values","told_by_is","told_by_upto"] ["field"] (aV (top 27)):=lU
def Pg:bS ["form","questions","field"] ["form"] (aV (top 26)):=lU
def Qq:bS ["form","choices","question"] ["form"] (aV (top 28)):=lU
def Qx:bS ["sides","fewest"] ["sides","fewest"] (aV (top 35)):=lU
def Pd:bS ["one","other"] ["one","other"] (aV (top 21)):=lU
def Pf:bS ["fractions","common","found"] ["fractions"] (aV (top 23)):=lU
def Ge:bS ["form","rows","least","told","question","stray","sides","doubts","bottom"] ["form","rows","least"] (aV (top 37)):=lU
def Pe:bS ["one","other"] ["one","other"] (aV (top 22)):=lU
def Qz:bS ["form","rows","least","told"] ["form","rows","least"] (aV (top 39)):=lU
def Pp:bS ["form","rows","deep","least","found","sides","parts"] ["form","rows","deep","least"] (aV (top 40)):=lU
def Qj:bS ["_law_form_here","_law_knot","_law_case","_law_kind","_law_name","_law_value","_law_at","_law_values"] ["_law_form_here","_law_knot","_law_case"] (aV (top 93)):=lU
def Qk:bS ["_law_form_here","_law_some","_law_name","_law_values"] ["_law_form_here"] (aV (top 94)):=lU
def Ql:bS ["_law_form_here","_law_rows"] ["_law_form_here","_law_rows"] (aV (top 95)):=lU
def Qm:bS ["_law_form_here","_law_rows","_law_counts_here"] ["_law_form_here","_law_rows"] (aV (top 96)):=lU
def Qp:bS ["_law_tape_here","_law_form_here","_law_case","_law_name","_law_values","_law_value"] ["_law_tape_here","_law_form_here"] (aV (top 98)):=lU
def Qo:bS ["_law_form_here","_law_rows","_law_deep","_law_few","_law_counts_here","_law_leaf","_law_chosen","_law_least_top","_law_least_bottom","_law_question","_law_stray","_law_knot","_law_yes","_law_no","_law_top","_law_bottom"] ["_law_form_here","_law_rows","_law_deep","_law_few"] (aV (top 97)):=lU
def Kq:bS ["self","form","deep","least"] ["self","form","deep","least"] (aV (iK (top 77) 0)):=lU
def Pr:bS ["knot","side"] ["knot","side"] (aV (top 43)):=lU
def Ps:bS ["form","tree","case","way","part","side"] ["form","tree","case"] (aV (top 45)):=lU
def Pt:bS ["form","tree","case"] ["form","tree","case"] (aV (top 46)):=lU
def Pv:bS ["tree","place","part","side"] ["tree","place"] (aV (top 48)):=lU
def Pu:bS ["form","tree","case"] ["form","tree","case"] (aV (top 47)):=lU
def Px:bS ["tree","question","words"] ["tree"] (aV (top 71)):=lU
def Qc:bS ["entry"] ["entry"] (aV (top 82)):=lU
def Sb:bS ["_law_value"] ["_law_value"] (aV (top 99)):=lU
def Qb:bS ["words"] ["words"] (aV (top 81)):=lU
def Pz:bS ["word"] ["word"] (aV (top 79)):=lU
def Py:bS ["words"] ["words"] (aV (top 78)):=lU
def Sc:bS ["_law_row"] ["_law_row"] (aV (top 100)):=lU
def Qa:bS ["words"] ["words"] (aV (top 80)):=lU
def Qe:bS ["question","side"] ["question","side"] (aV (top 84)):=lU
def Qd:bS ["rows","told","number","row"] ["rows"] (aV (top 83)):=lU
def Gf:bS ["_law_tree","_law_words"] ["_law_tree"] (aV (top 101)):=lU
def Se:bS ["_law_form_here","_law_tree","_law_case","_law_words","_law_side_here"] ["_law_form_here","_law_tree","_law_case"] (aV (top 102)):=lU
def Sm:bS ["_law_state","_law_texts"] ["_law_state"] (aV (top 109)):=lU
def Sk:bS ["_law_form_here","_law_state","_law_rows"] ["_law_form_here","_law_state"] (aV (top 108)):=lU
def Sg:bS ["_law_tape_here","_law_form_here","_law_row","_law_words","_law_at","_law_odd","_law_some"] ["_law_tape_here","_law_form_here","_law_row"] (aV (top 104)):=lU
def Sh:bS ["_law_tape_here","_law_row","_law_words","_law_at","_law_odd","_law_some"] ["_law_tape_here","_law_row"] (aV (top 105)):=lU
def Si:bS ["_law_tape_here","_law_form_here","_law_state","_law_row","_law_words","_law_there","_law_gone","_law_number","_law_way"] ["_law_tape_here","_law_form_here","_law_state"] (aV (top 106)):=lU
def Kr:bS ["self","word","tree","rows"] ["self","word"] (aV (iK (top 77) 3)):=lU
def Aw:bS ["self","word","case","tree","answer","way"] ["self","word","case"] (aV (iK (top 77) 4)):=lU
def De:bS ["self","words"] ["self","words"] (aV (iK (top 77) 2)):=lU
def Av:bS ["self","text","words"] ["self","text"] (aV (iK (top 77) 1)):=lU
def Sf:bS ["_law_desk","_law_text_here","_law_told","e"] ["_law_desk","_law_text_here"] (aV (top 103)):=lU
def Sj:bS ["_law_tape_here","_law_form_here","_law_state","_law_there","_law_row","_law_number","_law_way","_law_tree","_law_case"] ["_law_tape_here","_law_form_here","_law_state"] (aV (top 107)):=lU
def Pw:bS ["one","other","on_yes","on_no"] ["one","other"] (aV (top 52)):=lU
def Wx:bS ["_law_script","_law_tape_here","_law_form_here","_law_state","_law_desk","_law_beside","_law_k","_law_text_here","_law_word","_law_due"] ["_law_script"] (aV (top 110)):=lU
section
variable{P:cO}{w:f8}{K:aH}{mg:â->Option á}{base:ç}{Y U O I Z m5 m4:à}{kg ji jj kh jk ki jm jo jq kj gf fi fj gg:à}{A G:à}{t_SIDES t_SINGLE_WORDS:à}{z5 y4 bc u5 bd:Tok}(T:Txt K mg Y U O I Z m5 m4 kg ji jj kh jk ki jm jo jq kj gf fi fj gg A G t_SIDES t_SINGLE_WORDS z5 y4 bc u5 bd)
include T
def Ng:Ft P w base T.D_17 1 Rh:=by
 refine qC T.D_17.F Oy λc nd a Q h=>?_;obtain⟨f,rfl,b,h⟩:=h;refine⟨_,(bQ (cK (cE bE dE (bP aY cI (aD 0) aN) (eV (aA qS aF))))),?_⟩;refine⟨_,gL,_,gL,aB gL,?_,h⟩;grind
def El:Ft P w base T.D_14 1 Re:=by
 refine qC T.D_14.F Ov λg nd f Q h=>?_;obtain⟨d,lo,c,rfl,b,h⟩:=h;refine⟨_,(bQ (cK (GE (Vd (VL _) (aD 0) (λh=>mR aBl gL T.b_isinstance nL (eF h (eF (K1 gL T.b_tuple qH gL) kX)))) (CF (aBa SH SH sE sE (aD 1) (cB jB (aA (aD 0) aF) cJ T.b_len fV) (aD 2)))))),?_⟩;refine⟨_,gL,?_⟩
 cases d with
 |tuple a=>
  show(if wx=wx then _ else Q (.bool ww));rw[b7 rfl];refine⟨_,gL,_,gL,?_⟩;show(if decide (lo<=(a.length:Int))=wx then _ else Q (.bool ww));have e:yH (.tuple a) lo c=(decide (lo<=(a.length:Int))&&decide ((a.length:Int)<=c)):=rfl;rw[e]at h
  cases hb:decide (lo<=(a.length:Int))with
  |true=>
   rw[hb]at h;rw[b7 rfl];exact⟨_,gL,h⟩
  |false=>
   rw[hb]at h;rw[a8 cS];exact h
 |dict kvs=>cases b
 |_=>exact h
def ZL:Ft P w base T.D_15 2 Rf:=by
 refine qC T.D_15.F Ow λn nd E Q h=>?_;obtain⟨fs,an,d,rfl,F,hd,h⟩:=h;refine⟨_,(aW (ss 2 nd (bP aY cI (aD 0) aN))
 (aW (iN (rM (tv (cd (El T) n (aA (aD 1) (aA (cB jB (aA (aD 2) aF) cJ T.b_len fV) (aA (cB jB (aA (aD 2) aF) cJ T.b_len fV) aF))))))
 (bQ (cK GD))
 fM)
 (bQ (cK (cB Ey (aA (el (fr:=[wy,wy]) (N':=["field","value"]) (Vn (aA (aD 2) (aA (aD 1) aF)) (λh=>Wt gL T.b_zip h)) (λb=>⟨(pU (qP gL (fB (pk 0) (fB (pk 1) nO)))),gQ,(oX (P1 n) ZR (aD 1) (cd (Ng T) n (aA (aD 0) aF)))⟩)) aF) (BE gL) T.b_all Hg))))),?_⟩
 have r:(fs.map qE).length=fs.length:=aC ..
 have g:yH d ((fs.map qE).length:Int) ((fs.map qE).length:Int)=ww->fT fs d=false:=λe=>by
  cases d with
  |tuple c=>
   have:¬c.length=fs.length:=λz=>by
    simp only[yH,r,z,pC,ai,Bool.and_true]at e;cases e
   simp only[fT,b8 this,sS]
  |_=>rfl
 refine cL (.tuple (fs.map qE)) (λq j=>⟨_,gL,_,gL,j⟩) ?_;refine iZ (λb=>b=!yH d ((fs.map qE).length:Int) ((fs.map qE).length:Int)) (λq j=>⟨_,gL,_,gL,_,gL,d,_,_,gL,nU hd.1,j _ gL⟩) (λl=>?_) λu=>?_
 ·have:=g (by simpa using l.symm);rw[this]at h;exact h
 ·try unfold pW
  dsimp only;have l:yH d ((fs.map qE).length:Int) ((fs.map qE).length:Int)=true:=by simpa using u.symm
  cases d with
  |tuple c=>
   have i:c.length=fs.length:=by
    simp only[yH,r,dH,c8]at l;lia
   show qG (f1 Cr) _ _ Q;dsimp only[qG,vJ,DN];have n5:=F.n5;refine LF (λR h=>⟨_,gL,_,gL,_,_,gL,h⟩) (λx=>.bool (zv x)) (by rw[zZ];lia) (λx y=>?_) (λa b q v j=>?_) ?_
   ·refine Ã (dG y) λk m=>?_;refine Í (MQ m) λa b _ _ Z=>?_;subst Z;exact⟨a,b,gL⟩
   ·refine Ã (dG v) λk m=>?_;refine Í (MQ m) λB C s t e=>?_;cases e;refine Â (aS.mp (aZ s)) λf o Z=>?_;subst Z;exact⟨_,gL,_,gL,f,gL,(F.vs f o).2.1,GA (FJ (F.vals o) (hd.item (aZ t))) j⟩
   ·refine⟨(EN (fs.map qE) c).map zv,by rw[bJ];rfl,?_⟩;rw[Zm]
    have e:fT fs (.tuple c)=(fs.zip c).all λp=>OV p.1 p.2:=by
     simp only[fT,a9 i,kQ]
    rw[e]at h;exact h
  |_=>exact b9 l (by simp[yH])
def SJ:Ft P w base T.D_16 3 Rg:=by
 refine qC T.D_16.F Ox λg nd j Q h=>?_;obtain⟨fs,an,d,rfl,F,hd,h⟩:=h;refine⟨_,(aW (iN (rM (tv (cd (El T) g (aA (aD 1) (aA aN (aA aN aF))))))
 (bQ (cK GD))
 fM)
 (bQ (cK (GE (cd (ZL T) g (aA (aD 0) (aA (bP aY cI (aD 1) aN) aF))) (CF (oX (P1 g) ZR (bP aY cI (aD 1) aN) (bP aY cI (aD 0) aN))))))),?_⟩
 rcases Xq d with⟨c,a,rfl⟩ | ⟨e,b⟩
 ·refine BX (λq f=>⟨_,gL,_,_,_,gL,nU hd.1,f _ gL⟩) ?_;refine⟨_,gL,_,gL,_,gL,fs,an,c,gL,F,hd.item gC,?_⟩;show(if fT fs c=wx then _ else _);have e:A2 fs an (.tuple [c,a])=(fT fs c&&yI an a):=rfl;rw[e]at h
  cases i:fT fs c with
  |true=>
   rw[b7 rfl];rw[i]at h;refine⟨_,gL,_,gL,_,gL,_,gL,GA (K7 F.an.2.1 (hd.item gC)) ?_⟩;show Q (.bool ((an.map aI).any λz=>dW z a));rw[BG];exact h
  |false=>
   lia
 ·refine BW (λq f=>⟨_,gL,d,_,_,gL,nU hd.1,f _ (by rw[e];rfl)⟩) ?_
  have:A2 fs an d=false:=by
   unfold Ed at b;unfold A2;split at b
   ·cases b
   ·rfl
  rw[this]at h;exact h
def NF:Ft P w base T.D_40 1 Tx:=by
 refine qC T.D_40.F Pq λc nd b Q h=>?_;obtain⟨t,rfl,h⟩:=h;refine⟨_,(bQ (cK (oX fR jN (bP aY cI (aD 0) aN) bI))),?_⟩
 cases t with
 |say a=>exact⟨_,gL,_,gL,h⟩
 |ask k n v s y m=>exact⟨_,gL,_,gL,h⟩
def Km:Fm P w K mg base sC 1 kj ["self"] (jO K (L1 A)):=by
 refine TJ (F:=mM A) T.D_9.F Kt λf nd d n e Q h=>?_;obtain⟨c,g,b,rfl,a,h⟩:=h;refine⟨_,(dI (iO (aA6 T.C_Book T.n_Book_numbered (aD 0) (pc:=λh=>tP (CL gL) gL T.b_list T6 (eF (ZA oC J2 PySem.F.type_dict_items VF h) kX))))),?_⟩;obtain rfl:=gU b;refine⟨_,gL,gL,?_⟩;rw[a];unfold mE;rw[bJ];exact h
def Ek:Fm P w K mg base sC 1 gf ["self"] (jO K (QD A)):=by
 refine TJ (F:=mM A) T.D_10.F Ot λe nd a n d Q h=>?_;obtain⟨c,b,rfl,h⟩:=h;refine⟨_,(dI (iO (uZ T.C_Book T.n_Book_standing (aD 0)))),?_⟩;obtain rfl:=gU b;exact⟨_,gL,gL,a,_,gL,gL,h⟩
def SK:Fm P w K mg base sC 2 fj ["self","number"] (jO K (Rb A)):=by
 refine TJ (F:=mM A) T.D_12.F X8 λb nd f n g Q h=>?_;obtain⟨e,j,d,c,rfl,a,h⟩:=h;refine⟨_,(dI (jQ (XI b.u1 T.C_Book T.n_Book_numbered (aD 1) (aD 0))
 (dI (mB kU))
 iB)),?_⟩
 obtain rfl:=gU c;refine⟨_,gL,j,gL,_,gL,gL,?_⟩;rw[a];exact h
def SL:Fm P w K mg base sC 4 fi ["self","thing"] (jO K (Ra A)):=by
 refine TJ (F:=mM A) T.D_11.F Gd λa nd b n g Q h=>?_;obtain⟨fs,an,f,d,e,rfl,F,c,hd,hw,h⟩:=h;refine⟨_,(dI (jQ (XH (XG (wH (SJ T) T.D_16.m T.D_16.k T.D_16.d (a.mono cS) (dR (uZ T.C_Book T.n_Book_form (aD 0)) (dR (jJ (aD 1)) lB)) (λh=>kE (SJ T) (a.mono cS) gL T.D_16.m T.D_16.k T.D_16.d .nil gZ h)) (λh=>PP h)))
 (dI (mB kU))
 iB)),?_⟩
 obtain rfl:=gU e;refine⟨_,gL,gL,b,_,gL,gL,_,gL,fs,an,d,by rw[c],F,hd,?_⟩;rw[hw];exact h
def aDc(r:Nat)
  (g:Ft P w base T.D_46 (2+r) (vV r)):Fj P w base T.D_46 (2+r+1) (mS K (vV (r+1))):=by
 refine qC T.D_46.F Pw λp nd ds Q h=>?_;obtain⟨fs,an,t,u,rfl,F,j,o,vz,vy,wa,h⟩:=h;refine⟨_,(aW (iN (rL (CT (tv (cd (hk:=by lia) (NF T) p (aA (aD 0) aF))) (CT (tv (cd (hk:=by lia) (NF T) p (aA (aD 1) aF))) (yX (cN (PZ p) uS (dZ gB mV (aD 0) fG (eL aN)) (dZ gB mV (aD 1) fG (eL aN)))))))
 (bQ (cK (yJ (cN (FI p) uS (aD 0) (aD 1)) (fU aF) (fU (aA (eV aF) aF)))))
 fM)
 (aW (mQ (i:=2) (eX (cd (hk:=by lia) g p (aA (bP aY cI (aD 0) aN) (aA (bP aY cI (aD 1) aN) aF)))) (λb=>⟨(eB (pk 0)),gQ,(cE bE dE (eV (aA bI aF)) (aD 0))⟩) (λH E=>kW (show pZ _ (aV (top 52)) ["one","other","on_yes","on_no"] ["place"] [wy]=wx from by decide +kernel) nd gL (by first | exact g4 gL | exact f7 gL) gL H E gL))
 (aW (mQ (i:=3) (eX (cd (hk:=by lia) g p (aA (bP aY cI (aD 0) aN) (aA (bP aY cI (aD 1) aN) aF)))) (λb=>⟨(eB (pk 0)),gQ,(cE bE dE (eV (aA bI aF)) (aD 0))⟩) (λH E=>kW (show pZ _ (aV (top 52)) ["one","other","on_yes","on_no"] ["place"] [wy]=wx from by decide +kernel) nd gL (by first | exact g4 gL | exact f7 gL) gL H E gL))
 (bQ (cK (cE bE dE (aD 2) (aD 3))))))),?_⟩
 refine iZ (λb=>b=ww->TB t=ww/\TB u=ww) (λq c=>?_) (λ_=>?_) λM=>?_
 ·refine⟨_,gL,t,gL,?_⟩
  cases t with
  |say a=>exact(b7 gL).mpr (c _ λz=>by cases z)
  |ask k n v s y m=>
   refine(a8 (λz=>by cases z)).mpr ⟨_,gL,u,gL,?_⟩
   cases u with
   |say b=>exact(b7 gL).mpr (c _ λz=>by cases z)
   |ask N R W S C B=>exact(a8 (λz=>by cases z)).mpr ⟨_,gL,_,gL,SM (T5 F j) (T5 F o),c _ λ_=>⟨gL,gL⟩⟩
 ·refine⟨_,gL,_,gL,SM (Fc F j eH) (Fc F o eH),?_⟩;show(if dW (jX t) (jX u)=wx then _ else _);split
  ·exact⟨gJ,h [] ⟨dA _,λx e=>by cases e⟩⟩
  ·exact⟨gJ,gJ,h [.tuple []] ⟨Nat.one_le_two_pow,λx e=>⟨[],aU.mp e,dA _⟩⟩⟩
 ·unfold pW;dsimp only
  cases t with
  |say a=>cases (M gL).1
  |ask k n v s y m=>
   cases u with
   |say b=>cases (M gL).2
   |ask N R W S C B=>
    refine Ô j λ_ _ hy hm=>?_;refine Ô o λ_ _ L J=>?_;have e1:(Tr.ask k n v s y m).dep=max y.dep m.dep+1:=rfl;have vc:(Tr.ask N R W S C B).dep=max C.dep B.dep+1:=rfl;have p6:2^max y.dep m.dep<=2^6:=fH cS eH
    have one:∀{w:â}{l:List D}{d:Nat},d<=6->wu d l->∀(x:D)(q:D->Prop),x∈l->q (JR w x)->Am (.tuple [.str w]) x q:=λhd f x q e c=>by
     refine Â (f.2 x e) λts Z ht=>?_;subst Z;exact⟨by show 1+_<=_;lia,c⟩
    refine dP (λd=>∃l,d=.list (l.map (JR "yes"))/\wu y.dep l) (λq c=>⟨_,gL,_,gL,_,gL,_,gL,fs,an,y,C,gL,F,hy,L,eH,eH,eH,λl f=>⟨_,gL,QJ (JR "yes") (by have:=(f.cons "yes" (sB y.dep m.dep)).2;lia) (λx q e c=>⟨gJ,_,gL,one eH f x q e c⟩) (c _ ⟨l,gL,f⟩)⟩⟩) ?_;rintro _ ⟨l1,rfl,h1⟩;refine dP (λd=>∃l,d=.list (l.map (JR "no"))/\wu m.dep l) (λq c=>⟨_,gL,_,gL,_,gL,_,gL,fs,an,m,B,gL,F,hm,J,eH,eH,eH,λl f=>⟨_,gL,QJ (JR "no") (by have:=(f.cons "no" (qU y.dep m.dep)).2;lia) (λx q e c=>⟨gJ,_,gL,one eH f x q e c⟩) (c _ ⟨l,gL,f⟩)⟩⟩) ?_;rintro _ ⟨l2,rfl,h2⟩;refine Ä (h1.cons "yes" (sB y.dep m.dep)) λc1 d1=>?_;refine Ä (h2.cons "no" (qU y.dep m.dep)) λX d2=>?_;refine⟨_,gL,_,gL,by simp only[aC];lia,h _ ⟨?_,λx e=>(bM.mp e).elim (c1.2 x) (X.2 x)⟩⟩;rw[e1,aR,aC,aC,RI];lia
def Go:Ft P w base T.D_46 9 Sn:=by
 have h:∀a:Nat,Ft P w base T.D_46 (2+a) (vV a):=λa=>by
  induction a with
  |zero=>exact F8 wG λc Q h=>ZZ h
  |succ a b=>exact aDc T a b
 exact h 7
def Em:Fj P w base T.D_18 1 (nS K Ri):=by
 refine xc T.D_18.F Oz λd nd n Q h=>?_;obtain⟨fs,an,rs,rfl,F,hok,k,h⟩:=h;refine⟨_,(aW (ss 2 nd (el (fr:=[wy]) (N':=["row"]) (eX (aD 1)) (λb=>⟨(eB (pk 0)),gQ,(bP aY cI (aD 0) aN)⟩)))
 (bQ (AH (fl (fr:=[wy,wz 2]) (N':=["answer","told"]) (eX (bP aY cI (aD 0) aN)) (λb=>⟨(eB (pk 0)),gQ,(VW (aD 1) (aA (aD 0) aF) (λh f=>gY cV PySem.F.slot_list_count PySem.F.type_list_count (VE d) h f))⟩))))),?_⟩
 have a4:=F.a4;refine cL (.list (rs.map λr=>aI r.2)) (λq c=>?_) ?_
 ·refine iR (λR h=>⟨_,gL,_,gL,h⟩) za (by rw[aC];lia) (λx q g c=>?_) ?_
  ·refine Â (aS.mp g) λr d z=>?_;subst z;exact⟨_,gL,_,gL,c⟩
  ·rw[bJ];exact c
 have j:=aAf λy l=>by
  obtain⟨r,d,rfl⟩:=aS.mp l;exact F.an.2.1 _ (hok r d).2
 rw[bJ]at j;refine Ih (iR (λR h=>⟨_,gL,_,gL,_,gL,h⟩) (yr rs) (by rw[aC];lia) (λx q g c=>?_) ?_)
 ·refine Â (aS.mp g) λa f z=>?_;subst z;have i:=kM (F.an.2.1 a f) (m:=0) (aP _);refine⟨_,gL,_,gL,_,gL,_,gL,⟨j.1,i.lay,by have:=i.depth;lia⟩,?_⟩;rw[O9];exact c
 ·have e:(an.map aI).map (yr rs)=(jU an rs).map bW:=by
   unfold jU;rw[bJ,bJ];rfl
  rw[e];exact h
def Ep:Ft P w base T.D_22 1 Rl:=by
 refine qC T.D_22.F Pc λn nd m Q h=>?_;obtain⟨a,b,rfl,h⟩:=h;refine⟨_,(aW (EY (cN IP sE (aD 1) aN)
 (aW (ss 2 nd (cE qQ MH (aD 0) (aD 1)))
 (aW (ss 0 nd (aD 1))
 (bQ (ss 1 nd (aD 2))))) (λj hb=>FD r8 j hb))
 (bQ (cK (aD 0)))),?_⟩
 refine BV (λy k=>∃(x:Nat)(g:Sl),k=[.val (.int x),.val (.int y),g]/\x.gcd y=a.gcd b) b ⟨a,_,gL,gL⟩ λy l i=>?_;refine Î i λx g z d=>?_;subst z;refine⟨decide (0<y),λq c=>⟨_,gL,?_⟩,?_⟩
 ·show q (decide ((y:Int)>0));simp_all
 by_cases e:0<y
 ·rw[b7 (a9 e)];refine cL (.int ((x%y:Nat):Int)) (λq c=>⟨_,gL,_,gL,(show(0:Int)<(y:Int) by lia),?_⟩) ?_
  ·lia
  refine cL (.int y) (λq c=>⟨_,gL,c⟩) ?_;refine sP (.int ((x%y:Nat):Int)) (λq c=>⟨_,gL,c⟩) ⟨x%y,CO _ e,y,_,gL,?_⟩;rw[<- d,aTn x y,Nat.gcd_rec y x,aTn]
 ·rw[a8 (by lia)];have f:y=0:=by lia
  subst f;rw[Nat.gcd_zero_right]at d;subst d;exact⟨_,gL,h⟩
def Eo:Ft P w base T.D_21 2 Gg:=by
 refine qC T.D_21.F Pb λi nd j Q h=>?_;obtain⟨a,b,rfl,hb,e,c,h⟩:=h;refine⟨_,(aW (ss 2 nd (cd (Ep T) i (aA (aD 0) (aA (aD 1) aF))))
 (bQ (cK (eV (aA (cE ND MH (aD 0) (aD 2)) (aA (cE ND MH (aD 1) (aD 2)) aF)))))),?_⟩
 refine cL (.int ((a.gcd b:Nat):Int)) (λq g=>⟨_,gL,_,gL,a,b,gL,g⟩) ?_;have f:0<a.gcd b:=vG _ hb
 have hd:(0:Int)<((a.gcd b:Nat):Int)/\((a.gcd b:Nat):Int)<2^200:=⟨eH,by
  have:(a.gcd b)<2^190:=tH (Nat.gcd_le_right _ hb) c;lia⟩
 refine⟨_,gL,_,gL,hd,_,gL,_,gL,hd,aB gL,?_⟩;rw[<- vP,<- vP];exact h
def En:Ft P w base T.D_20 3 Rk:=by
 refine qC T.D_20.F Pa λk nd B Q h=>?_;obtain⟨fs,an,rs,rfl,F,hok,d,h⟩:=h;refine⟨_,(aW (ss 2 nd (cB jB (aA (aD 1) aF) cJ T.b_len fV))
 (aW (iN (cN fR jN (aD 2) aN)
 (bQ (cK (eV (aA aN (aA aN aF)))))
 fM)
 (bQ (cK (cd (Eo T) k (aA (cB Fb (aA (el (fr:=[wy,wz 2]) (N':=["count","many"]) (eX (GC (cF (Em T) k (aA (aD 0) (aA (aD 1) aF))))) (λb=>⟨(eB (pk 0)),gQ,(cE gD oR (aD 0) (cE wA NH (aD 1) (aD 0)))⟩)) aF) (yK gL) T.b_sum Hi) (aA (aD 2) aF))))))),?_⟩
 have a4:=F.a4;refine cL (.int (rs.length:Int)) (λq j=>⟨_,gL,?_⟩) ?_
 ·show q (.int ((rs.map eJ).length:Int));grind
 refine iZ (λb=>b=decide ((rs.length:Int)=0)) (λq j=>⟨_,gL,j _ gL⟩) (λs=>?_) λp=>?_
 ·have m:rs.length=0:=by have:=c6 s.symm;lia
  have:=pA.mp m;subst this
  have l:Z9 (GZ [] []) (max 1 ([]:List Rw).length)=.tuple [.int 0,.int 1]:=rfl
  rw[l]at h;exact⟨aB gL,h⟩
 ·try unfold pW
  dsimp only;have m:¬rs.length=0:=λz=>by have:=i9 p.symm;lia
  have o:max 1 rs.length=rs.length:=by lia
  rw[o]at h;have v:=PQ rs rs;have u:=nH d d;have f:(jU an rs).length=an.length:=by unfold jU;rw[aC]
  have i:∀c∈jU an rs,0<=c/\c<=(rs.length:Int):=λc g=>by
   refine Â (aS.mp g) λa _ z=>?_;subst z;have:=Hm rs a;lia
  show qG Gg _ _ Q;dsimp only[qG,vJ,DN];refine iR (λR h=>⟨_,gL,_,gL,fs,an,rs,gL,F,hok,d,_,gL,h⟩) (Fh rs.length) (by grind) (λx q y j=>?_) ?_
  ·refine Â (aS.mp y) λc g z=>?_;subst z;have:=i c g;exact⟨_,gL,_,gL,_,gL,.inl ⟨eH,eH⟩,j⟩
  ·have e:((jU an rs).map bW).map (Fh rs.length)=((jU an rs).map λc=>c*((rs.length:Int)-c)).map bW:=by
    rw[bJ,bJ];rfl
   rw[e];refine⟨_,gL,λn t=>?_,by grind,?_⟩
   ·refine Â (aS.mp t) λc g z=>?_;subst z;have:=i c g;have C:0<=c*((rs.length:Int)-c):=aLy eH eH;have E:c*((rs.length:Int)-c)<=60*60:=aLz eH eH eH cS;lia
   ·rw[SE F.an.2.2 λr k=>(hok r k).2];exact⟨_,gL,_,_,gL,eH,tH (show GZ rs rs<=3600 by lia) cS,tH (show rs.length<=60 from d) cS,h⟩
def Nj:Ft P w base T.D_24 1 Ro:=by
 refine qC T.D_24.F Pe λb nd a Q h=>?_;obtain⟨x,y,rfl,c,d,h⟩:=h;refine⟨_,(bQ (cK (oX IM sE (cE gD oR (bP aY cI (aD 0) aN) (bP aY cI (aD 1) aN)) (cE gD oR (bP aY cI (aD 1) aN) (bP aY cI (aD 0) aN))))),?_⟩;refine⟨_,gL,_,gL,_,gL,_,gL,.inl ⟨eH,eH⟩,_,gL,_,gL,_,gL,_,gL,.inl ⟨eH,eH⟩,?_⟩;show Q (.bool (decide ((x.1:Int)*(y.2:Int)<(y.1:Int)*(x.2:Int))))
 have e:decide ((x.1:Int)*(y.2:Int)<(y.1:Int)*(x.2:Int))=decide (x.1*y.2<y.1*x.2):=by
  rw[k6,<- gF,<- gF];lia
 rw[e];exact h
def Ni:Ft P w base T.D_23 3 Rm:=by
 refine qC T.D_23.F Pd λd nd f Q h=>?_;obtain⟨x,y,rfl,a,b,h⟩:=h;refine⟨_,(bQ (cK (cd (Eo T) d (aA (cE bE dE (cE gD oR (bP aY cI (aD 0) aN) (bP aY cI (aD 1) aN)) (cE gD oR (bP aY cI (aD 1) aN) (bP aY cI (aD 0) aN))) (aA (cE gD oR (bP aY cI (aD 0) aN) (bP aY cI (aD 1) aN)) aF))))),?_⟩;have j:=a.top;have k:=a.bot;have l:=b.top;refine ñ (RV a b) λg i c=>?_
 have e:[bW ((x.1:Int)*(y.2:Int)+(y.1:Int)*(x.2:Int)),.int ((x.2:Int)*(y.2:Int))]=[.int ((x.1*y.2+y.1*x.2:Nat):Int),.int ((x.2*y.2:Nat):Int)]:=rfl
 refine⟨_,gL,_,gL,_,gL,_,gL,.inl ⟨eH,eH⟩,_,gL,_,gL,_,gL,_,gL,.inl ⟨eH,eH⟩,_,gL,_,gL,_,gL,_,gL,.inl ⟨eH,eH⟩,_,_,e,c,eH,eH,h⟩
def Nn:Fj P w base T.D_27 1 (nS K Rr):=by
 refine xc T.D_27.F Ph λj nd g Q h=>?_;obtain⟨f,rfl,c,i,h⟩:=h;refine⟨_,(aW (ss 1 nd (bP aY cI (aD 0) aN))
 (aW (ss 2 nd (bP aY cI (aD 0) aN))
 (aW (ss 3 nd (yJ (cN fR jN (cB jB (aA (aD 2) aF) cJ T.b_len fV) aN) (dZ gB mV (aD 2) fG (eL aN)) (aD 2)))
 (aW (ss 4 nd (dZ gB mV (aD 2) (eL aN) (eL (wJ aN))))
 (bQ (AH (Wk (el (fr:=[wy,wz 1]) (N':=["value","name"]) (eX (aD 3)) (λb=>⟨(eB (pk 0)),gQ,(eV (aA bI (aA (aD 1) (aA (aD 0) aF))))⟩)) (el (fr:=[wy,wz 1]) (N':=["value","name"]) (eX (aD 4)) (λb=>⟨(eB (pk 0)),gQ,(eV (aA bI (aA (aD 1) (aA (aD 0) aF))))⟩))))))))),?_⟩
 refine cL (.str f.1) (λq a=>⟨_,gL,_,gL,a⟩) ?_;refine cL (.tuple (f.2.map aI)) (λq a=>⟨_,gL,_,gL,a⟩) ?_;refine cL (.tuple ((G8 f).map aI)) (λq a=>⟨_,gL,?_⟩) ?_
 ·show(if decide (((f.2.map aI).length:Int)=2)=wx then _ else _);unfold G8 at a;rw[aC];by_cases e:f.2.length=2
  ·rw[b7 (a9 eH)];rw[b7 e]at a;refine⟨_,gL,?_⟩;show q (.tuple (fY (f.2.map aI) wy (wz 1)));rw[hX,Yn _ c];exact a
  ·rw[a8 (by lia)];rw[a8 e]at a;exact⟨_,gL,a⟩
 refine cL (.tuple ((zI f).map aI)) (λq a=>⟨_,gL,?_⟩) ?_
 ·show q (.tuple (fY (f.2.map aI) (wz 1) (wz (-2))));rw[hX,Ym _ c];exact a
 have l:(G8 f).length<=5:=by
  unfold G8;split
  ·rw[bH];lia
  ·lia
 have k:(zI f).length<=5:=by
  unfold zI;rw[bH,dF];lia
 dsimp only[Gb,Dy];refine iR (λR h=>⟨_,gL,_,gL,h⟩) (λx=>.tuple [.str "is",.str f.1,x]) (by rw[aC];lia) (λx q d a=>⟨_,gL,_,gL,aB gL,a⟩) ?_;refine iR (λR h=>⟨_,gL,_,gL,h⟩) (λx=>.tuple [.str "upto",.str f.1,x]) (by rw[aC];lia) (λx q d a=>⟨_,gL,_,gL,aB gL,a⟩) ?_;refine⟨_,_,gL,gL,by grind,?_⟩;rw[bJ,bJ];exact h
def Nm:Fj P w base T.D_26 2 (nS K Rq):=by
 refine xc T.D_26.F Pg λr nd y Q h=>?_;obtain⟨fs,an,rfl,F,h⟩:=h;refine⟨_,(aW (so 1 nd aF)
 (aW (sf (eX (bP aY cI (aD 0) aN)) (eB (pn 2 nd))
 (bQ (RW (i:=1) (pv 1) (GC (cF (Nn T) r (aA (aD 2) aF))) (pb:=λh=>gK (gY cV HI HH SY (pv 1) h)))))
 (bQ (IB (pv 1))))),?_⟩
 have n5:=F.n5;refine qY [] cS (λq c=>c) ?_
 refine pT (λR h=>⟨_,gL,_,gL,_,gL,h⟩)
  (λk v=>∃d:Sl,v=[.val (gM fs an),.own (iH (fs.take k)),d]) ⟨_,gL⟩ (λk x j l b=>?_) λj b=>?_
 ·refine Ã b λd z=>?_;subst z;rw[aO]at l;refine Â (dB.mp l) λf a z=>?_;subst z;refine ñ (F.vs f (aZ a)) λt u s=>?_;have m:=nV F (fs.take k) λg n=>dX n;have o:(fs.take k).length<=5:=by rw[bH];lia
  have p:(OU f).length<=10:=by
   unfold OU G8 zI;rw[aR,aC,aC,bH,dF];split
   ·rw[bH];lia
   ·lia
  refine NE gL eH (λq c=>⟨_,gL,f,gL,t,u,c⟩) ⟨.val (qE f),?_⟩
  have e:iH (fs.take (k+1))=iH (fs.take k)++OU f:=by
   unfold iH;rw[dD,a,cC,WI];show _++[OU f].flatten=_;rw[O2]
  rw[e];rfl
 ·refine Ã b λd z=>?_;subst z;rw[aC,eI];exact⟨_,gL,h⟩
def No:Ft P w base T.D_28 3 Rs:=by
 refine qC T.D_28.F Qq λe nd y Q h=>?_;obtain⟨fs,an,rfl,F,h⟩:=h;refine⟨_,(aW (so 1 nd aF)
 (aW (sf (eX (GC (cF (Nm T) e (aA (aD 0) aF)))) (eB (pn 2 nd))
 (bQ (RW (pv 1) (el (fr:=[wy,wz 2]) (N':=["stray","question"]) (eX (A9 gL T.c_SIDES T.t_SIDES)) (λb=>⟨(eB (pk 0)),gQ,(eV (aA (aD 1) (aA (aD 0) aF)))⟩)) (pb:=λh=>gK (gY cV HI HH SY (pv 1) h)))))
 (rP 1 (bQ (cK (aD 1)))))),?_⟩
 have n5:=F.n5;have n:=nV F fs λg o=>o;have t:(qs fs).length=(iH fs).length:=by rw[<- D5,aC]
 refine qY [] cS (λq s=>s) ?_
 refine pT (λR h=>⟨_,gL,fs,an,gL,F,_,gL,by rw[<- D5];exact h⟩)
  (λk v=>∃j:Sl,v=[.val (gM fs an),.own ((((qs fs).take k).flatMap vQ).map xp),j]) ⟨_,gL⟩ (λk x m i c=>?_) λm c=>?_
 ·refine Ã c λj r=>?_;subst r;rw[aO]at i;refine Â (dB.mp i) λq d r=>?_;subst r
  have a:((((qs fs).take k).flatMap vQ).map xp).length=2*((qs fs).take k).length:=by
   rw[aC]
   generalize (qs fs).take k=l
   induction l with
   |nil=>rfl
   |cons x l u=>rw[aB9,aR,u,bD];show 2+_=_;lia
  have p:((qs fs).take k).length<=50:=by rw[bH];lia
  refine NE (us:=[xp (q,"yes"),xp (q,"no")]) gL (by rw[a];show _+2<=_;lia) (λr e=>?_) ⟨.val (qD q),?_⟩
  ·refine iR (λR h=>⟨_,gL,h⟩) (λx=>.tuple [qD q,x]) cS (λx z i f=>⟨_,gL,_,gL,gJ,f⟩) e
  ·rw[dD,d];rw[WJ,cC];rfl
 ·refine Ã c λj r=>?_;subst r;rw[aC,eI];exact⟨_,gL,_,gL,h⟩
def Nl:Ft P w base T.D_25 2 Rp:=by
 refine qC T.D_25.F Pf λo nd r Q h=>?_;obtain⟨l,rfl,n,h⟩:=h;refine⟨_,(aW (ss 1 nd aN)
 (aW (sf (eX (aD 0)) (eB (pn 2 nd))
 (bQ (ss 1 nd (cE AR MH (cE gD oR (aD 1) (bP aY cI (aD 2) aN)) (cd (Ep T) o (aA (aD 1) (aA (bP aY cI (aD 2) aN) aF)))))))
 (bQ (cK (aD 1))))),?_⟩
 refine cL (.int 1) (λq a=>a) ?_
 refine pT (λR h=>⟨_,gL,_,gL,h⟩)
  (λk p=>∃c:Sl,p=[.val (.list (l.map QS)),.val (.int ((zR (l.take k):Nat):Int)),c]) ⟨_,gL⟩ (λk x d e b=>?_) λd b=>?_
 ·refine Ã b λc z=>?_;subst z;rw[aO]at e;refine Â (dB.mp e) λy f z=>?_;subst z;refine Ä (n y (aZ f)) λg t=>?_;have s:(zR (l.take k)).gcd y.2<=y.2:=aL8 g (DZ _ _);have m:0<(zR (l.take k)).gcd y.2:=vG _ g
  have j:zR (l.take (k+1))=(zR (l.take k)).lcm y.2:=by
   unfold zR;rw[dD,f,DG];rfl
  refine sP (.int ((zR (l.take (k+1)):Nat):Int)) (λq a=>⟨_,gL,_,gL,_,gL,.inr ⟨eH,eH⟩,_,gL,_,gL,_,gL,_,_,gL,⟨eH,eH⟩,?_⟩) ⟨_,gL⟩;rw[j]at a
  have i:((zR (l.take k):Nat):Int)*(y.2:Int) / (((zR (l.take k)).gcd y.2:Nat):Int)=(((zR (l.take k)).lcm y.2:Nat):Int):=rfl
  lia
 ·refine Ã b λc z=>?_;subst z;rw[aC,eI];exact⟨_,gL,h⟩
def Nt:Ft P w base T.D_35 1 Sa:=by
 refine qC T.D_35.F Qx λc nd b Q h=>?_;obtain⟨a,bs,m,rfl,h⟩:=h;refine⟨_,(bQ (cK (GE (oX IQ sE (cB jB (aA (bP aY cI (aD 0) aN) aF) cJ T.b_len fV) (aD 1)) (CF (oX IQ sE (cB jB (aA (bP aY cI (aD 0) aN) aF) cJ T.b_len fV) (aD 1)))))),?_⟩;refine⟨_,gL,_,gL,_,gL,?_⟩;show(if decide (m<=(a.length:Int))=wx then _ else _)
 cases e:decide (m<=(a.length:Int))with
 |false=>
  rw[a8 cS];rw[e]at h;exact h
 |true=>
  rw[b7 rfl];rw[e]at h;exact⟨_,gL,_,gL,_,gL,h⟩
def Et:Fj P w base T.D_34 1 (nS K Rz):=by
 refine xc T.D_34.F Qw λl nd j Q h=>?_;obtain⟨w,ss,rfl,k,h⟩:=h;refine⟨_,(bQ (AH (fl (fr:=[wy,wy,wz 0]) (N':=["number","found","side"]) (Yz (aA (aD 1) aF) (λh=>aD6 gL T.b_enumerate h)) (λb=>⟨(pU (qP gL (fB (pk 0) (fB (pk 1) nO)))),(F4 (cN fR jN (aD 1) (aD 2))),(aD 0)⟩)))),?_⟩;rw[<- N1]at h;refine Ih (aAc (λR h=>⟨_,gL,_,gL,h⟩) (yk w) An (by rw[tV,aC];lia) (λx g=>?_) (λa b q f e=>?_) (λa b q f e=>?_) h)
 ·rw[JN]at g;grind
 ·refine Ã (dG f) λi d=>?_;have c:=(aJ.mp d).1;rw[tV,aC]at c;rw[CG (by rw[aO,aL c];rfl)]at d;cases d;exact⟨_,gL,_,gL,e⟩
 ·exact⟨_,gL,e⟩
def Nr:Ft P w base T.D_32 1 Rx:=by
 refine qC T.D_32.F Qu λj nd m Q h=>?_;obtain⟨k,n,v,f,rfl,g,l,o,h⟩:=h;refine⟨_,(aW (iN (cN fR jN (bP aY cI (aD 0) aN) bI)
 (bQ (cK (eV (aA (bP aY cI (aD 0) aN) aF))))
 fM)
 (bQ (cK (dZ gB mV (bP aY cI (aD 1) aN) fG (eL (cE bE dE (GB (bP aY cI (aD 1) aN) (aA (bP aY cI (aD 0) aN) aF) (λh d=>gY tF tE tD (FQ j) h d)) aN)))))),?_⟩
 unfold F5 at h;refine iZ (λb=>b=decide (k="is")) (λq i=>⟨_,gL,_,gL,i _ gL⟩) (λc=>?_) λa=>?_
 ·rw[b7 (c6 c.symm)]at h;exact⟨_,gL,_,gL,aB gL,h⟩
 ·rw[a8 (i9 a.symm)]at h;refine⟨_,gL,_,gL,_,gL,_,gL,_,gL,_,gL,_,gL,_,_,gL,tQ g l,?_⟩;show Q (.tuple (fY (f.2.map aI) wy (wz ((f.2.idxOf v:Int)+1))));have e:((f.2.idxOf v:Nat):Int)+1=((f.2.idxOf v+1:Nat):Int):=rfl;rw[e,hX,pQ];exact h
def Nq:Ft P w base T.D_31 2 Rv:=by
 refine qC T.D_31.F Qt λd nd i Q h=>?_;obtain⟨k,n,v,st,f,rfl,c,g,a,h⟩:=h;refine⟨_,(bQ (cK (cE bE dE (cd (Nr T) d (aA (aD 0) (aA (aD 2) aF))) (yJ (cN fR jN (aD 1) bI) (eV (aA qS aF)) (eV aF))))),?_⟩;have b:=aAw (k:=k) (v:=v) a;refine⟨_,gL,_,gL,k,n,v,f,gL,c,g,a,_,gL,?_⟩;unfold yE at h;show(if decide (st="yes")=wx then _ else _);by_cases e:st="yes"
 ·rw[b7 (a9 e)];rw[b7 e]at h;exact⟨aB gL,by grind,h⟩
 ·rw[a8 (by lia)];rw[a8 e]at h;exact⟨aB gL,by grind,h⟩
def Np:Ft P w base T.D_30 1 Ru:=by
 refine qC T.D_30.F Qs λo nd r Q h=>?_;obtain⟨fs,an,k,n,v,g,j,rfl,F,c,a,h⟩:=h;refine⟨_,(bQ (cK (xL (el (fr:=[wy]) (N':=["field"]) (eX (bP aY cI (aD 0) aN)) (λb=>⟨(eB (pk 0)),gQ,(bP aY cI (aD 0) aN)⟩)) (aA (bP aY cI (aD 1) aN) aF) (λh i=>gY cV oB oA (xF o) h i)))),?_⟩;have n5:=F.n5;have l:=(aJ.mp c).1;have d:(fs.map (·.1)).idxOf n=j:=by rw[<- a];exact EB F c
 show TR _ _ _ Q;refine iR (λR h=>⟨_,gL,_,gL,_,gL,h⟩) fst (by rw[aC];lia) (λx q p m=>?_) ?_
 ·refine Â (aS.mp p) λf s z=>?_;subst z;exact⟨_,gL,_,gL,m⟩
 ·have e:(fs.map qE).map fst=(fs.map (·.1)).map aI:=by rw[bJ,bJ];rfl
  rw[e];have:=tQ F.nd.2.1 (aS.mpr ⟨g,aZ c,a⟩);rw[d]at this;exact⟨_,gL,_,gL,_,gL,_,j,gL,this,eH,h⟩
def Er:Ft P w base T.D_29 3 Rt:=by
 refine qC T.D_29.F Qr λr nd C Q h=>?_;obtain⟨fs,an,k,n,v,st,i,rfl,F,p,s,t,h⟩:=h;refine⟨_,(aW (ss 4 nd (cd (Np T) r (aA (aD 0) (aA (aD 1) aF))))
 (bQ (cK (yJ (cN (P1 r) ZR (bP aY cI (aD 3) (aD 4)) (cd (Nq T) r (aA (aD 1) (aA (aD 2) (aA (bP aY cI (bP aY cI (aD 0) aN) (aD 4)) aF))))) bI bI)))),?_⟩
 refine Ä (mT t) λx o=>?_;refine Ó (A3 p) λd a e g B=>?_;refine Ã (dG a) λj f=>?_;have y:=(aJ.mp f).1;have b:i[j]?=wz i[j]:=aL eH
 generalize u:i[j]=c at b
 have hok:=o j d c f b;rw[E3 F f b e]at h
 have l:Cd c:=by
  cases c with
  |none=>exact(KD (n:=8) (m:=0)).cd cS
  |str z=>exact(kM (F.vals a z (c6 hok)) (m:=0) (aP _)).cd cS
  |_=>cases hok
 refine cL (.int (j:Int)) (λq p=>⟨_,gL,_,gL,fs,an,k,n,v,d,j,gL,F,f,e,p⟩) ?_;refine⟨_,gL,_,gL,_,(L2.eR b),_,gL,_,gL,_,gL,_,gL,_,gL,_,(L2.eR (by rw[aO,f];rfl)),k,n,v,st,d,gL,F.vals a,g,(F.vs d a).2.1,GA (ZE (F.vals a) g l) ?_⟩;rw[<- aAs s hok]at h;show(if OW c (.tuple (yE k v st d))=wx then _ else _)
 cases hb:OW c (.tuple (yE k v st d))with
 |true=>rw[b7 rfl];rw[hb,b7 rfl]at h;exact h
 |false=>rw[a8 cS];rw[hb,a8 cS]at h;exact h
def Es:Fj P w base T.D_33 4 (AW K Ry):=by
 refine Ja T.D_33.F Qv λc nd o Q h=>?_;obtain⟨fs,an,k,n,v,st,rs,rfl,F,l,f,hok,d,h⟩:=h;refine⟨_,(aW (mQ (i:=4) (fr:=[wy,wz 0,wz 1,wz 2]) (N':=["row","form","question","stray"]) (eX (aD 3)) (λb=>⟨(eB (pk 0)),gQ,(cd (Er T) c (aA (aD 1) (aA (aD 2) (aA (aD 3) (aA (bP aY cI (aD 0) aN) aF)))))⟩) (λj g=>kW (show pZ _ (aV (top 33)) ["form","question","stray","rows","sides"] ["row","form","question","stray"] [wy,wz 0,wz 1,wz 2]=wx from by decide +kernel) nd gL (by first | exact g4 gL | exact f7 gL) gL j g gL))
 (bQ (M0 (cF (Et T) c (aA bI (aA (aD 4) aF))) (cF (Et T) c (aA bI (aA (aD 4) aF)))))),?_⟩
 have e:(rs.map eJ).map (Bz fs k n v st)=(rs.map λr=>eD fs k n v st r.1).map aI:=by rw[bJ,bJ];rfl
 refine cL (.list ((rs.map λr=>eD fs k n v st r.1).map aI)) (λq a=>?_) ?_
 ·refine iR (λR h=>⟨_,gL,_,gL,h⟩) (Bz fs k n v st) (by rw[aC];lia) (λx q m a=>?_) ?_
  ·refine Â (aS.mp m) λr c z=>?_;subst z;exact⟨_,gL,_,gL,_,gL,_,gL,_,gL,fs,an,k,n,v,st,r.1,gL,F,l,f,(hok r c).1,a⟩
  ·rw[e];exact a
 rw[<- RZ,<- RZ]at h;exact⟨_,gL,"yes",_,gL,by rw[aC];exact d,_,gL,"no",_,gL,by rw[aC];exact d,h⟩
def Eu:Ft P w base T.D_37 1 Tu:=by
 refine qC T.D_37.F Qy λd nd g Q h=>?_;obtain⟨fs,k,n,v,st,w,rs,rfl,i,h⟩:=h;refine⟨_,(bQ (cK (el (fr:=[wy,wz 0]) (N':=["number","rows"]) (eX (aD 1)) (λb=>⟨(eB (pk 0)),gQ,(bP aY cI (aD 1) (aD 0))⟩)))),?_⟩
 have l:(mC fs k n v st rs w).length<=60:=by
  unfold mC;have:=cH (wB fs k n v st rs w) (fA rs.length);rw[kG]at this;lia
 refine iR (λR h=>⟨_,gL,_,gL,h⟩) (E9 rs) eH (λx q f c=>?_) ?_
 ·refine Â (aS.mp (cW.mp f).1) λj e z=>?_;subst z;have a:j<rs.length:=by simpa using e
  have d:E9 rs (.int (j:Int))=eJ rs[j]:=by
   show(match L2.atI rs (j:Int)with | some r=>eJ r | none=>.none)=_;rw[L2.eR (aL a)]
  rw[d]at c;exact⟨_,gL,_,gL,_,(L2.eR (by rw[aO,aL a];rfl)),c⟩
 ·rw[yx fs k n v st w rs.length rs rfl];exact h
def Nu:Fj P w base T.D_36 6 (nS K Tt):=by
 refine Jb T.L_36 T.D_36.F Ge (λds Q h=>by refine ð h λfs an rs m g F f l h=>?_;subst g;rfl) λdb lc Ar outer s H E o ds Q h=>?_;obtain⟨fs,an,rs,m,rfl,F,f,l,h⟩:=h;have nd:=Ge.nd;refine⟨_,(aW (so 3 nd aF)
 (aW (sf (eX (cd (No T) o (aA (aD 0) aF))) (pU (qP gL (fB (pn 4 nd) (fB (pn 5 nd) nO))))
 (aW (ss 6 nd (Ff (cQ (Es T) o (aA (aD 0) (aA (aD 4) (aA (aD 5) (aA (aD 1) aF)))))))
 (bQ (iN (tv (cd (Nt T) o (aA (aD 6) (aA (aD 2) aF))))
 (aW (mQ (i:=7) (fr:=[wy,wz 0,wz 1]) (N':=["numbers","form","rows"]) (eX (aD 6)) (λb=>⟨(eB (pk 0)),gQ,(cd (En T) o (aA (aD 1) (aA (cd (Eu T) o (aA (aD 2) (aA (aD 0) aF))) aF)))⟩) (λr hY=>kW (show pZ _ (aV (top 37)) ["form","rows","least","told","question","stray","sides","doubts","bottom"] ["numbers","form","rows"] [wy,wz 0,wz 1]=wx from by decide +kernel) nd gL (by first | exact g4 gL | exact f7 gL) gL r hY gL))
 (bQ (zB (i:=3) (pv 3) (eV (aA (aD 4) (aA (aD 5) (aA (cd (Ni T) o (aA (bP aY cI (aD 7) aN) (aA (bP aY cI (aD 7) aN) aF))) aF)))) (pb:=λh=>gK (gY cV gT gS nY (pv 3) h)))))
 fM))))
 (rP 3 (aW (ss 8 nd (cd (Nl T) o (aA (el (fr:=[wy,wy,wy]) (N':=["question","stray","doubt"]) (eX (aD 3)) (λb=>⟨(JF (qP gL (fB (pk 0) (fB (pk 1) (fB (pk 2) nO))))),gQ,(aD 2)⟩)) aF)))
 (bQ (AH (aA0 (k:=0) (ib:=8) (o.mono eH) lc gL gL gL gL T.b_sorted tW (aA (aD 3) aF)))))))),?_⟩
 have qp:(jD fs rs m).length<=60:=by
  have h1:=nV F fs λg W=>W;have n3:=F.n3;have h2:=cH (okC fs rs m) (MJ fs);rw[LS]at h2;show((MJ fs).filter (okC fs rs m)).length<=60;lia
 have qo:(MJ fs).length<=100:=by
  have h1:=nV F fs λg W=>W;have n5:=F.n5;rw[LS];lia
 refine qY [] cS (λq u=>u) ?_
 refine pT (λR h=>⟨_,gL,fs,an,gL,F,_,gL,h⟩)
  (λk σ=>∃s4 s5 s6 M:Sl,σ=[.val (gM fs an),.val (.list (rs.map eJ)),.val (.int m),.own ((((MJ fs).take k).filter (okC fs rs m)).map (QW fs rs)),s4,s5,s6,M,.un]) ⟨_,_,_,_,gL⟩ (λk x v4 n N=>?_) λv4 N=>?_
 ·refine ē N λs4 s5 s6 M g=>?_;subst g;rw[aO]at n;refine Â (dB.mp n) λc p g=>?_;subst g;refine Ä (Q0 (aZ p)) λu X=>?_;have j:=KZ u
  have C:(mC fs c.1.1 c.1.2.1 c.1.2.2 c.2 rs "yes").length=(yR fs c rs).length:=by
   have:=d8 iT (yx fs c.1.1 c.1.2.1 c.1.2.2 c.2 "yes" rs.length rs gL);rw[aC,aC]at this;exact this
  have B:(mC fs c.1.1 c.1.2.1 c.1.2.2 c.2 rs "no").length=(nR fs c rs).length:=by
   have:=d8 iT (yx fs c.1.1 c.1.2.1 c.1.2.2 c.2 "no" rs.length rs gL);rw[aC,aC,D9 F j X f]at this;exact this
  have et:((MJ fs).take (k+1)).filter (okC fs rs m)=((MJ fs).take k).filter (okC fs rs m)++(if okC fs rs m c=wx then[c]else[]):=by
   rw[dD,p,jV];congr 1;show List.filter _ [c]=_;rw[fQ];rfl
  have vn:((((MJ fs).take k).filter (okC fs rs m)).map (QW fs rs)).length<=100:=by
   rw[aC];exact bK (cH _ _) (by rw[bH];lia)
  refine⟨qD c.1,.str c.2,gL,?_⟩;refine cL (.tuple [.list (mC fs c.1.1 c.1.2.1 c.1.2.2 c.2 rs "yes"),.list (mC fs c.1.1 c.1.2.1 c.1.2.2 c.2 rs "no")]) (λq d=>⟨_,gL,_,gL,_,gL,_,gL,fs,an,c.1.1,c.1.2.1,c.1.2.2,c.2,rs,gL,F,j,X,f,l,d⟩) ?_;refine B2 (λb=>b=okC fs rs m c) (λq d=>⟨_,gL,_,gL,_,_,m,gL,?_⟩) (λhT=>?_) λhF=>?_
  ·refine d _ ?_;rw[C,B];rfl
  ·refine cL (.list [QS (zV (yR fs c rs)),QS (zV (nR fs c rs))]) (λq d=>?_) ?_
   ·refine QI (λR h=>⟨_,gL,_,gL,h⟩) (λi _ y=>(i=0->y=QS (zV (yR fs c rs)))/\(i=1->y=QS (zV (nR fs c rs)))) gJ (λi x q n v=>?_) λys uc L=>?_
    ·have r:i<2:=(aJ.mp n).1;rcases(show i=0\/i=1 by lia)with rfl | rfl
     ·cases n;exact⟨_,gL,_,gL,_,gL,fs,c.1.1,c.1.2.1,c.1.2.2,c.2,"yes",rs,gL,l,fs,an,_,gL,F,f.filt _,bK (cH _ _) l,v _ ⟨λ_=>rfl,λz=>by cases z⟩⟩
     ·cases n;refine⟨_,gL,_,gL,_,gL,fs,c.1.1,c.1.2.1,c.1.2.2,c.2,"no",rs,gL,l,?_⟩;rw[D9 F j X f];exact⟨fs,an,_,gL,F,f.filt _,bK (cH _ _) l,v _ ⟨(λz=>by cases z),λ_=>rfl⟩⟩
    ·match ys,uc,L with
     |[a,b],_,L=>
      rw[((L 0 _ a gL gL).1 gL),((L 1 _ b gL gL).2 gL)];exact d
   ·have t:(nR fs c rs).length<=60:=bK (cH _ _) l;refine xD (QW fs rs c) gL eH (λq d=>⟨_,gL,_,gL,_,gL,_,gL,_,gL,_,gL,_,_,gL,BB (bK (cH _ _) l),BB t,gJ,d⟩) ⟨.val (qD c.1),.val (.str c.2),.val (.tuple [.list (mC fs c.1.1 c.1.2.1 c.1.2.2 c.2 rs "yes"),.list (mC fs c.1.1 c.1.2.1 c.1.2.2 c.2 rs "no")]),.val (.list [QS (zV (yR fs c rs)),QS (zV (nR fs c rs))]),?_⟩;rw[et,b7 hT.symm,cC];rfl
  ·try unfold pW
   refine⟨.val (qD c.1),.val (.str c.2),.val (.tuple [.list (mC fs c.1.1 c.1.2.1 c.1.2.2 c.2 rs "yes"),.list (mC fs c.1.1 c.1.2.1 c.1.2.2 c.2 rs "no")]),M,?_⟩;rw[et,a8 (by rw[<- hF];decide),cM];rfl
 ·refine ē N λs4 s5 s6 M g=>?_;subst g;rw[aC,eI];refine⟨_,gL,?_⟩
  have S:∀x∈WS fs rs m,0<x.2/\x.2<=1000000:=λx n=>by
   refine Â (aS.mp n) λc _ g=>?_;subst g;have:=CH (fs:=fs) l c;exact⟨this.pos,bK this.bot cS⟩
  refine cL (.int (zR (WS fs rs m):Nat)) (λq u=>?_) ?_
  ·dsimp only[qG,vJ,DN];refine Zg (ts:=HA fs rs m) (λR h=>⟨_,gL,_,gL,h⟩) Bw (by rw[wK];lia) (λx n=>?_) (λa b c q' hm j=>⟨_,gL,j⟩) ?_
   ·refine Â (aS.mp n) λc _ g=>?_;subst g;exact⟨_,_,_,gL⟩
   ·have e:(HA fs rs m).map Bw=(WS fs rs m).map QS:=by
     unfold HA WS;rw[bJ,bJ];rfl
    rw[e];exact⟨_,gL,S,u⟩
  ·refine⟨_,gL,HA fs rs m,(zR (WS fs rs m):Nat),LH fs rs m,gL,by rw[wK];lia,gL,by rw[wK,aAn],λi e k he hk=>?_,λJ hJ=>?_⟩
   ·have r:i<(jD fs rs m).length:=by rw[<- wK];exact(aJ.mp he).1
    have e1:=TQ r;rw[dM,he]at e1;have e2:=LG r;rw[dM,hk]at e2;have sm:=CH (fs:=fs) l (jD fs rs m)[i];have s1:=sm.top;have s2:=sm.pos;have s3:=sm.bot;exact⟨_,_,_,_,e1,⟨eH,eH⟩,.inl ⟨eH,eH⟩,e2⟩
   ·rw[wK]at hJ;exact h J hJ
def Nv:Ft P w base T.D_38 7 Tv:=by
 refine qC T.D_38.F Qz λn nd s Q h=>?_;obtain⟨fs,an,rs,m,rfl,F,g,d,h⟩:=h;refine⟨_,(aW (ss 3 nd (GC (cF (Nu T) n (aA (aD 0) (aA (aD 1) (aA (aD 2) aF))))))
 (aW (iN (rL (vR (UP (aD 3) (λh=>YU h (λ_=>rfl))) (sL (tv (cd (Nj T) n (aA (bP aY cI (bP aY cI (aD 3) aN) aN) (aA (cd (En T) n (aA (aD 0) (aA (aD 1) aF))) aF)))))))
 (bQ (cK (bP aY cI (aD 3) aN)))
 fM)
 (bQ (cK qS)))),?_⟩
 have j:∀{i:Nat}{J:List Nat},xy fs rs m (i::J)->∃c,xg fs rs (jD fs rs m)=wz c/\L2.atI (Ao fs rs m (i::J)) 0=wz (QW fs rs c):=λ{i J} a=>by
  refine⟨_,aBn d a,?_⟩;refine L2.eR ?_;show wz ((HA fs rs m).getD i .none)=_;rw[TQ (a.lt i (aM ..))]
 have o:∀c,xg fs rs (jD fs rs m)=wz c->qI fs rs m=if lH (dC fs rs c) (zV rs)=wx then wz c else none:=λc l=>by
  unfold qI;rw[l];rfl
 refine dP (λv=>∃J,xy fs rs m J/\v=.list (Ao fs rs m J)) (λq f=>⟨_,gL,_,gL,_,gL,fs,an,rs,m,gL,F,g,d,λJ a=>f _ ⟨J,a,gL⟩⟩) ?_;rintro _ ⟨J,a,rfl⟩
 cases J with
 |nil=>
  have e:qI fs rs m=none:=by unfold qI;rw[Yi a];rfl
  rw[e]at h;refine iZ (λb=>b=ww) (λq f=>?_) (λk=>by cases k) λ_=>?_
  ·refine⟨_,gL,[],gL,?_⟩;show(if(ww:Bool)=wx then _ else q ww);rw[a8 cS];exact f _ gL
  ·exact h
 |cons i J=>
  refine Â (j a) λc l p=>?_;rw[o c l]at h;refine iZ (λb=>b=lH (dC fs rs c) (zV rs)) (λq f=>?_) (λk=>?_) λr=>?_
  ·refine⟨_,gL,_,gL,?_⟩;show(if(wx:Bool)=wx then _ else q ww);rw[b7 rfl];exact⟨_,gL,_,p,_,gL,_,gL,_,gL,fs,an,rs,gL,F,g,d,_,_,gL,(λc=>bK (CH (fs:=fs) d c).top cS) c,(bK (BB d).top cS),f _ gL⟩
  ·rw[b7 k.symm]at h;exact⟨_,gL,_,p,h⟩
  ·rw[a8 (by rw[<- r];decide)]at h;exact h
def Nh:Ft P w base T.D_19 2 Rj:=by
 refine qC T.D_19.F OK λn nd v Q h=>?_;obtain⟨fs,an,rs,rfl,F,hok,l,h⟩:=h;refine⟨_,(aW (ss 2 nd (GC (cF (Em T) n (aA (aD 0) (aA (aD 1) aF)))))
 (bQ (cK (bP aY cI (bP aY cI (aD 0) aN) (xL (aD 2) (aA (cB Fa (aA (aD 2) aF) (yL gL) T.b_max Hh) aF) (λh o=>gY cV oB oA (xF n) h o)))))),?_⟩
 have a2:=F.a2;refine cL (.list ((jU an rs).map bW)) (λq u=>⟨_,gL,_,gL,fs,an,rs,gL,F,hok,l,u⟩) ?_
 have k:jU an rs≠[]:=λz=>by
  have:=d8 iT z;unfold jU at this;grind
 refine⟨_,gL,_,gL,_,gL,_,gL,_,gL,_,gL,k,λm t a=>?_⟩;refine Â (F9 (jU an rs) m t) λj g f=>?_;have s:=(aJ.mp g).1;have p:(jU an rs).length=an.length:=by unfold jU;rw[aC]
 have a4:=F.a4;have c:an[j]?=wz an[j]:=aL eH;have e:(jU an rs)[j]?=wz ((CI rs an[j]:Nat):Int):=by unfold jU;rw[aO,c];rfl
 rw[g]at e;have x:=c7 e;refine⟨_,j,gL,IS g f,eH,_,L2.eR (by simp),h _ ⟨j,c,λi b hb=>?_,λi b r hb=>?_⟩⟩
 ·have:=a ((CI rs b:Nat):Int) (aZ (by unfold jU;rw[aO,hb];rfl));lia
 ·have d:(jU an rs)[i]?=wz ((CI rs b:Nat):Int):=by unfold jU;rw[aO,hb];rfl
  have y:=a _ (aZ d);grind
def aDd(s:Nat)
  (l:Ft P w base T.D_39 (8+s) (vW s)):Fj P w base T.D_39 (8+s+1) (mS K (vW (s+1))):=by
 refine qC T.D_39.F Pp λr nd ds Q h=>?_;obtain⟨fs,an,rs,d,m,rfl,F,f,j,hd,h⟩:=h;refine⟨_,(aW (ss 4 nd (yJ (cN IP sE (aD 2) aN) (cd (hk:=by lia) (Nv T) r (aA (aD 0) (aA (aD 1) (aA (aD 3) aF)))) qS))
 (aW (iN (cN K4 SO (aD 4) qS)
 (bQ (cK (eV (aA bI (aA (cd (hk:=by lia) (Nh T) r (aA (aD 0) (aA (aD 1) aF))) aF)))))
 fM)
 (aW (ss 5 nd (Ff (cQ (hk:=by lia) (Es T) r (aA (aD 0) (aA (bP aY cI (aD 4) aN) (aA (bP aY cI (aD 4) aN) (aA (aD 1) aF)))))))
 (aW (mQ (i:=6) (fr:=[wy,wz 0,wz 3,wz 1,wz 2]) (N':=["numbers","form","least","rows","deep"]) (eX (aD 5)) (λb=>⟨(eB (pk 0)),gQ,(cd (hk:=by lia) l r (aA (aD 1) (aA (cd (hk:=by lia) (Eu T) r (aA (aD 3) (aA (aD 0) aF))) (aA (cE wA NH (aD 4) aN) (aA (aD 2) aF)))))⟩) (λS X=>kW (show pZ _ (aV (top 40)) ["form","rows","deep","least","found","sides","parts"] ["numbers","form","least","rows","deep"] [wy,wz 0,wz 3,wz 1,wz 2]=wx from by decide +kernel) nd gL (by first | exact g4 gL | exact f7 gL) gL S X gL))
 (bQ (cK (eV (aA bI (aA (bP aY cI (aD 4) aN) (aA (bP aY cI (aD 4) aN) (aA (bP aY cI (aD 6) aN) (aA (bP aY cI (aD 6) aN) aF)))))))))))),?_⟩
 cases d with
 |zero=>
  refine cL .none (λq g=>⟨_,gL,g⟩) ?_;refine BW (λq g=>⟨_,gL,g _ gL⟩) ?_;exact⟨_,gL,_,gL,fs,an,rs,gL,F,f,j,λa H=>⟨gJ,h (.say a) ⟨a,H,gL⟩⟩⟩
 |succ e=>
  refine cL (Di fs rs (qI fs rs m)) (λq g=>⟨_,gL,?_⟩) ?_
  ·show(if decide ((0:Int)<((e+1:Nat):Int))=wx then _ else q .none);rw[b7 (a9 eH)];exact⟨_,gL,_,gL,_,gL,fs,an,rs,m,gL,F,f,j,g⟩
  cases B:qI fs rs m with
  |none=>
   refine BW (λq g=>⟨_,gL,g _ gL⟩) ?_;refine⟨_,gL,_,gL,fs,an,rs,gL,F,f,j,λa H=>⟨gJ,h (.say a) ?_⟩⟩;unfold Gr;rw[B];exact⟨a,H,gL⟩
  |some c=>
   refine Ä (Q0 ((cW.mp (JZ B)).1)) λg W=>?_;have o:=KZ g;refine BX (λq g=>⟨_,gL,g _ gL⟩) ?_;refine cL (.tuple [.list (mC fs c.1.1 c.1.2.1 c.1.2.2 c.2 rs "yes"),.list (mC fs c.1.1 c.1.2.1 c.1.2.2 c.2 rs "no")]) (λq k=>⟨_,gL,_,gL,_,gL,_,gL,_,gL,_,gL,fs,an,c.1.1,c.1.2.1,c.1.2.2,c.2,rs,gL,F,o,W,f,j,k⟩) ?_;refine dP (λv=>∃y n,Gr fs an m e (yR fs c rs) y/\Gr fs an m e (nR fs c rs) n/\v=.list [jX y,jX n]) (λq k=>?_) ?_
   ·have N:((e+1:Nat):Int)-1=((e:Nat):Int):=by lia
    refine QI (λR h=>⟨_,gL,_,gL,h⟩) (λi _ y=>(i=0->∃t,Gr fs an m e (yR fs c rs) t/\y=jX t)/\(i=1->∃t,Gr fs an m e (nR fs c rs) t/\y=jX t)) gJ (λi x q L p=>?_) λys M u=>?_
    ·have S:i<2:=(aJ.mp L).1;rcases(show i=0\/i=1 by lia)with rfl | rfl
     ·cases L;exact⟨_,gL,_,gL,_,gL,fs,c.1.1,c.1.2.1,c.1.2.2,c.2,"yes",rs,gL,j,_,gL,_,gL,fs,an,_,e,m,by rw[<- N]<;>rfl,F,f.filt _,bK (cH _ _) j,eH,λt J=>p _ ⟨λ_=>⟨t,J,gL⟩,λz=>by cases z⟩⟩
     ·cases L;refine⟨_,gL,_,gL,_,gL,fs,c.1.1,c.1.2.1,c.1.2.2,c.2,"no",rs,gL,j,?_⟩;rw[D9 F o W f];exact⟨_,gL,_,gL,fs,an,_,e,m,by rw[<- N]<;>rfl,F,f.filt _,bK (cH _ _) j,eH,λt J=>p _ ⟨(λz=>by cases z),λ_=>⟨t,J,gL⟩⟩⟩
    ·match ys,M,u with
     |[a,b],_,u=>
      refine Â ((u 0 _ a gL gL).1 gL) λy C Z=>?_;subst Z;refine Â ((u 1 _ b gL gL).2 gL) λn E Z=>?_;subst Z;exact k _ ⟨y,n,C,E,gL⟩
   ·rintro _ ⟨y,n,C,E,rfl⟩;refine⟨_,gL,_,gL,_,gL,_,gL,_,gL,_,gL,_,gL,_,gL,gJ,h (.ask c.1.1 c.1.2.1 c.1.2.2 c.2 y n) ?_⟩;unfold Gr;rw[B];exact⟨y,n,C,E,gL⟩
def ZK:Ft P w base T.D_39 15 Tw:=by
 have h:∀a:Nat,Ft P w base T.D_39 (8+a) (vW a):=λa=>by
  induction a with
  |zero=>exact F8 wG λc Q h=>Z0 h
  |succ a b=>exact aDd T a b
 exact h 7
def ZM:Fm P w K mg base sC 16 gg ["self"] (jO K (Rc A)):=by
 refine TJ (F:=mM A) T.D_13.F Ou λb nd a n C Q h=>?_;obtain⟨fs,an,d,m,p,o,B,y,rfl,F,u,c,e,v,r,x,hd,f,g,s,h⟩:=h;refine⟨_,(cD (rO (i:=1) (uZ T.C_Book T.n_Book_standing (aD 0)) (λh=>mD (i:=1) nd gL (by first | exact g4 gL | exact f7 gL) h))
 (cD (aC0 T.C_Book T.n_Book_standing (aD 0) (wH (ZK T) T.D_39.m T.D_39.k T.D_39.d (b.mono cS) (dR (uZ T.C_Book T.n_Book_form (aD 0)) (dR (Zr T.C_Book T.n_Book_numbered (aD 0) (pc:=λh=>tP (DL gL) gL T.b_list T6 (eF (ZA oC HJ PySem.F.type_dict_values P9 h) kX))) (dR (uZ T.C_Book T.n_Book_deep (aD 0)) (dR (uZ T.C_Book T.n_Book_least (aD 0)) lB)))) (λh=>kE (ZK T) (b.mono cS) gL T.D_39.m T.D_39.k T.D_39.d .nil gZ h)))
 (dI (iO (wH (Go T) T.D_46.m T.D_46.k T.D_46.d (b.mono cS) (dR (jJ (aD 1)) (dR (uZ T.C_Book T.n_Book_standing (aD 0)) lB)) (λh=>kE (Go T) (b.mono cS) gL T.D_46.m T.D_46.k T.D_46.d .nil gZ h)))))),?_⟩
 obtain rfl:a=p:=gU y;have z:n.kvs.map (·.2)=(o.map (·.2)).map eJ:=by rw[v];unfold mE;rw[bJ,bJ];rfl
 refine⟨_,gL,gL,a,_,gL,gL,?_⟩;refine⟨_,gL,gL,a,_,gL,gL,_,gL,gL,_,gL,gL,a,_,gL,gL,_,gL,gL,a,_,gL,gL,?_⟩;refine⟨fs,an,o.map (·.2),d,m,by rw[u,z,c,e],F,r,by rw[aC];exact x,eH,λt j=>?_⟩;refine Ä (NY d j) λq E=>?_;refine⟨_,gL,gL,?_⟩;refine⟨_,gL,_,gL,gL,a,_,gL,gL,fs,an,B,t,by rw[f],F,g,q,eH,eH,eH,λl _=>h t j l⟩
def Kj:Fm P w K mg base sC 17 jm ["self","row"] (jO K (Lw A)):=by
 refine TJ (F:=mM A) T.D_6.F Ax λv nd l n W Q h=>?_;obtain⟨fs,an,d,m,S,j,k,r,R,M,rfl,F,z,s,u,B,C,X,hd,x,y,p,f,J,g,b,o,h⟩:=h;refine⟨_,(cD (pS (oU cR (aD 0) (qJ (aA (aD 1) aF)) (λh E=>hU h T.C_Book T.M_11 (SL T) (v.mono cS) T.D_11.d .nil gZ E)) (λh=>gK h))
 (cD (jQ (yW IQ sE (Wg T.C_Book T.n_Book_numbered (aD 0) (pc:=λh=>mR V3 gL T.b_len fV (eF h kX))) (jJ (TN gL T.c_MOST_ROWS)))
 (dI (mB kU))
 iB)
 (cD (rO (i:=2) (uZ T.C_Book T.n_Book_following (aD 0)) (λh=>mD (i:=2) Ax.nd gL (by first | exact g4 gL | exact f7 gL) h))
 (cD (aC3 T.C_Book T.n_Book_following (aD 0) aN)
 (cD (XY v.u1 T.C_Book T.n_Book_numbered (aD 0) (aD 2) (aD 1))
 (dI (iO (QT (dR (jJ (aD 2)) (dR (tU cR (aD 0) (λh=>tO h T.C_Book T.M_13 (ZM T) (v.mono cS) T.D_13.d .nil gZ)) lB)))))))))),?_⟩
 obtain rfl:=gU M;refine⟨_,gL,gL,_,gL,fs,an,l,eJ r,gL,gL,F,z,o,NW b,?_⟩;have L:n.kvs.length=j.length:=by rw[B];unfold mE;rw[aC]
 dsimp only;refine nA (λq c=>⟨_,gL,gL,?_⟩) ?_
 ·have e:decide ((60:Int)<=(n.kvs.length:Nat))=false:=b8 eH;rw[<- e]at c;exact c
 refine wW (.int (k:Nat)) (λq c=>⟨_,gL,gL,l,_,gL,gL,by lia⟩) ?_;refine⟨_,gL,gL,1,gL,?_⟩;refine⟨_,gL,_,gL,gL,_,gL,(k:Nat),gL,by lia,?_⟩;have a:FC n.kvs (k:Nat) (eJ r)=mE (j++[(k,r)]):=by rw[B];exact M9 g
 refine⟨_,gL,_,gL,gL,fs,an,d,m,l,j++[(k,r)],R,gL,gL,F,z,s,u,a,IH C b,by grind,hd,x,y,p,λt H N=>⟨gJ,?_⟩⟩;grind
def Kk:Fm P w K mg base sC 17 jo ["self","number"] (jO K (Ly A)):=by
 refine TJ (F:=mM A) T.D_7.F Ay λv nd q n L Q h=>?_;obtain⟨fs,an,d,m,J,p,k,r,H,C,rfl,F,y,g,j,s,x,B,hd,l,o,f,c,h⟩:=h;refine⟨_,(cD (pS (oU cR (aD 0) (qJ (aA (aD 1) aF)) (λh e=>hU h T.C_Book T.M_12 (SK T) (v.mono cS) T.D_12.d .nil gZ e)) (λh=>gK h))
 (cD (rO (i:=2) (Wi T.C_Book T.n_Book_numbered (aD 0) (aD 1) (pc:=λh e=>gY oC vN MM SX h (eF e kX))) (λh=>mD (i:=2) Ay.nd gL (by first | exact g4 gL | exact f7 gL) h))
 (dI (iO (QT (dR (jJ (aD 2)) (dR (tU cR (aD 0) (λh=>tO h T.C_Book T.M_13 (ZM T) (v.mono cS) T.D_13.d .nil gZ)) lB))))))),?_⟩
 obtain rfl:=gU C;have b:qB n.kvs (k:Nat)=wz (eJ r):=by rw[s];exact uX c
 refine⟨_,gL,gL,_,gL,q,(k:Nat),eJ r,gL,gL,b,?_⟩;dsimp only;refine⟨_,gL,gL,_,gL,(k:Nat),eJ r,gL,b,?_⟩;have a:C6 n.kvs (k:Nat)=mE (nZ k p):=by rw[s];exact N3 k p
 refine⟨_,gL,_,gL,gL,fs,an,d,m,q,nZ k p,H,gL,gL,F,y,g,j,a,II x,bK (cH _ _) B,hd,l,o,f,λt z E=>⟨gJ,?_⟩⟩;have u:=h t z E;rw[<- a]at u;exact u
def Kl:Fm P w K mg base sC 17 jq ["self","number","row"] (jO K (Lz A)):=by
 refine TJ (F:=mM A) T.D_8.F Az λf nd j n S Q h=>?_;obtain⟨fs,an,d,m,R,y,k,r,g,N,L,rfl,F,z,q,u,s,C,J,hd,v,x,p,a,c,o,h⟩:=h;refine⟨_,(cD (pS (oU cR (aD 0) (qJ (aA (aD 1) aF)) (λh l=>hU h T.C_Book T.M_12 (SK T) (f.mono cS) T.D_12.d .nil gZ l)) (λh=>gK h))
 (cD (pS (oU cR (aD 0) (qJ (aA (aD 2) aF)) (λh l=>hU h T.C_Book T.M_11 (SL T) (f.mono cS) T.D_11.d .nil gZ l)) (λh=>gK h))
 (cD (rO (i:=3) (Wf f.u1 T.C_Book T.n_Book_numbered (aD 0) (aD 1)) (λh=>mD (i:=3) Az.nd gL (by first | exact g4 gL | exact f7 gL) h))
 (cD (XY f.u1 T.C_Book T.n_Book_numbered (aD 0) (aD 1) (aD 2))
 (dI (iO (QT (dR (jJ (aD 3)) (dR (tU cR (aD 0) (λh=>tO h T.C_Book T.M_13 (ZM T) (f.mono cS) T.D_13.d .nil gZ)) lB))))))))),?_⟩
 obtain rfl:=gU L;have e:qB n.kvs (k:Nat)=wz (eJ r):=by rw[s];exact uX a
 refine⟨_,gL,gL,_,gL,j,(k:Nat),eJ r,gL,gL,e,?_⟩;refine⟨_,gL,gL,_,gL,fs,an,j,eJ g,gL,gL,F,z,o,NW c,?_⟩;dsimp only;refine⟨_,gL,gL,_,gL,(k:Nat),eJ r,gL,e,?_⟩;have H:n.kvs.length=y.length:=by rw[s];unfold mE;rw[aC]
 refine⟨_,gL,_,gL,gL,_,gL,(k:Nat),gL,eH,?_⟩;have b:FC n.kvs (k:Nat) (eJ g)=mE (sM k g y):=by rw[s];exact M8 a
 refine⟨_,gL,_,gL,gL,fs,an,d,m,j,sM k g y,N,gL,gL,F,z,q,u,b,YG C c,by unfold sM;rw[aC];exact J,hd,v,x,p,λt E M=>⟨gJ,?_⟩⟩;have B:=h t E M;rw[<- b]at B;exact B
def Ki:Fm P w K mg base sC 16 ki ["self","form","deep","least"] (LE A K Dk):=by
 refine Jd T.D_5.F Ks gL T.C_Book T.n_Book_form T.n_Book_deep T.n_Book_least T.n_Book_numbered T.n_Book_following T.n_Book_standing λf i outer s H E e j fm dp ls Q h=>?_;refine ù h λfs an d m a F hd h=>?_;refine⟨_,_,(cd (ZK T) e (aA (aD 1) (aA (fU aF) (aA (aD 2) (aA (aD 3) aF))))),(λh=>(nK (uQ (pv 0) (pv 1) gL) (nK (uQ (pv 0) (pv 2) gL) (nK (uQ (pv 0) (pv 3) gL) (nK (uQ (pv 0) NA gL) (nK (uQ (pv 0) nE gL) (D6 (uQ (pv 0) h gL)))))))),?_⟩;injection a with g a
 injection a with b a
 injection a with c _
 injection b with b
 injection c with c
 subst g b c;exact⟨_,gL,gJ,_,gL,_,gL,fs,an,[],d,_,gL,F,(λr e=>by cases e),(dA _),eH,h⟩
def Oc:Fj P w base T.D_55 1 (nS K Sx):=by
 refine xc T.D_55.F Qf λl nd k Q h=>?_;obtain⟨ns,rfl,i,h⟩:=h;refine⟨_,(aW (ss 1 nd aN)
 (aW (iN (cN IP sE (cB jB (aA (aD 0) aF) cJ T.b_len fV) aN)
 (bQ (ss 1 nd (cE qQ MH (bP aY cI (aD 0) aN) aN)))
 fM)
 (bQ (AH (Wl (aA (dZ gB mV (aD 0) fG (eL aN)) (aA aN (aA aN (aA (aD 1) aF))))))))),?_⟩
 refine cL (.int 0) (λq b=>b) ?_;refine E6 (0<ns.length) (λd=>∃c:Int,d=.int c/\(c=0\/c=1)) (λq b=>⟨_,gL,b _ λhb=>?_⟩) (λj q b=>?_) (.int 0) gL ⟨0,gL,.inl gL⟩ ?_
 ·grind
 ·have e:L2.atI (ns.map bW) 0=wz (.int ns[0]):=L2.eR (by simp);refine⟨_,gL,_,e,(show(0:Int)<2 by decide),b _ ⟨_,gL,?_⟩⟩;lia
 rintro _ ⟨c,rfl,g⟩
 have a:fY (ns.map bW) wy (wz 63)=ns.map bW:=by
  have:=pQ (ns.map bW) 63;rw[fJ (by rw[aC];exact i)]at this;exact this
 refine⟨_,gL,_,gL,gJ,?_⟩;grind
def jI:Ft P w base T.D_56 1 Sy:=by
 refine qC T.D_56.F Qg λH nd B Q h=>?_;obtain⟨ns,m,rfl,E,f,r,h⟩:=h;refine⟨_,(aW (ss 2 nd (A7 0 (vH aY (pv 0) nE (by intro _ _;rfl))))
 (aW (ss 3 nd (A7 1 (vH aY (pv 0) nE (by intro _ _;rfl))))
 (aW (yZ 1 (cE bE dE (aD 3) aN) (PV (pv 0) nE E5) (λg i=>B1 g i))
 (aW (ss 4 nd aN)
 (aW (iN (cN IP sE (cB jB (aA (aD 2) aF) cJ T.b_len fV) aN)
 (bQ (ss 4 nd (bP aY cI (aD 2) (cE qQ MH (yJ (cN fR jN (A7 3 (vH aY (pv 0) nE (by intro _ _;rfl))) aN) (cE AR MH (aD 3) aN) (aD 3)) (cB jB (aA (aD 2) aF) cJ T.b_len fV)))))
 fM)
 (aW (iN (cN fR jN (A7 3 (vH aY (pv 0) nE (by intro _ _;rfl))) aN)
 (aW (iN (cN fR jN (cE qQ MH (aD 3) aN) aN)
 (bQ (yZ 2 (cE AR MH (aD 4) aN) (PV (pv 0) nE E5) (λg i=>B1 g i)))
 fM)
 (aW (ss 5 nd (A7 2 (vH aY (pv 0) nE (by intro _ _;rfl))))
 (aW (yZ 2 (cE AR MH (aD 5) (aD 1)) (PV (pv 0) nE E5) (λg i=>B1 g i))
 (bQ (cK (cE qQ MH (aD 5) (aD 1)))))))
 fM)
 (aW (ss 6 nd (cE qQ MH (cE gD oR (cE bE dE (cE qQ MH (aD 4) aN) aN) (cE bE dE (cE bE dE (cE gD oR (cE qQ MH (aD 3) aN) aN) aN) (aD 3))) aN))
 (aW (ss 6 nd (cE qQ MH (cE bE dE (cE bE dE (cE gD oR (aD 6) (aD 6)) (cE gD oR aN (aD 6))) (aD 3)) aN))
 (bQ (cK (cE qQ MH (cE qQ MH (cE gD oR (aD 6) aN) aN) (aD 1)))))))))))),?_⟩
 have l:(0:Int)<60:=by decide
 refine cL (.list (ns.map bW)) (λq e=>⟨ns,gL,e⟩) ?_;refine dP (λd=>∃a:Int,d=.int a/\0<=a) (λq e=>⟨ns,gL,λa n=>e _ ⟨a,gL,n⟩⟩) ?_;rintro _ ⟨a,rfl,n⟩;refine KO ns gL (a+1) (λq e=>⟨_,gL,e⟩) eH ?_;refine cL (.int 0) (λq e=>e) ?_;refine E6 (0<ns.length) (λd=>∃c:Int,d=.int c) (λq e=>⟨_,gL,e _ λhb=>?_⟩) (λo q e=>?_) (.int 0) gL ⟨0,gL⟩ ?_
 ·have j:=c6 hb;rw[aC]at j;lia
 ·have p:(0:Int)<((ns.map bW).length:Nat):=by rw[aC];lia
  refine⟨_,gL,ns,gL,λc C=>?_⟩;show(if decide (c=1)=wx then _ else _);split
  ·refine Ã (OH o (a / 60)) λx k=>?_;exact⟨_,gL,⟨cS,cS⟩,_,gL,p,_,k,e _ ⟨x,gL⟩⟩
  ·refine Ã (OH o a) λx k=>?_;exact⟨_,gL,_,gL,p,_,k,e _ ⟨x,gL⟩⟩
 rintro _ ⟨c,rfl⟩;refine iZ (λ_=>True) (λq e=>⟨ns,gL,λw hw=>e _ trivial⟩) (λ_=>?_) λ_=>?_
 ·refine iZ (λ_=>True) (λq e=>⟨_,gL,l,e _ trivial⟩) (λ_=>?_) λ_=>?_
  ·refine K6 ns gL (c / 2) (λq e=>⟨_,gL,⟨cS,cS⟩,e⟩) ?_;dsimp only;refine dP (λd=>∃b:Int,d=.int b) (λq e=>⟨ns,gL,λb=>e _ ⟨b,gL⟩⟩) ?_;rintro _ ⟨b,rfl⟩;refine AI ns gL (b / m) (λq e=>⟨_,gL,_,gL,⟨f,eH⟩,e⟩) ?_;exact⟨_,gL,_,gL,f,h _ (oO _ eH) (mJ _ f)⟩
  ·unfold pW;dsimp only;refine dP (λd=>∃b:Int,d=.int b) (λq e=>⟨ns,gL,λb=>e _ ⟨b,gL⟩⟩) ?_;rintro _ ⟨b,rfl⟩;refine AI ns gL (b / m) (λq e=>⟨_,gL,_,gL,⟨f,eH⟩,e⟩) ?_;exact⟨_,gL,_,gL,f,h _ (oO _ eH) (mJ _ f)⟩
 ·unfold pW;dsimp only;have s:(0:Int)<1000003:=by decide
  have t:(0:Int)<997:=by decide
  have u:(0:Int)<1000033:=by decide
  have v:(0:Int)<999983:=by decide
  have z:(0:Int)<65537:=by decide
  refine dP (λd=>∃x:Int,d=.int x/\0<=x/\x<1000033) (λq e=>⟨_,gL,s,_,gL,t,.inr ⟨cS,cS⟩,_,gL,.inl ⟨eH,eH⟩,u,e _ ⟨_,gL,oO _ cS,mJ _ cS⟩⟩) ?_;rintro _ ⟨x,rfl,J,L⟩;refine dP (λd=>∃x:Int,d=.int x/\0<=x/\x<999983) (λq e=>⟨_,gL,_,gL,.inl ⟨eH,eH⟩,_,gL,.inl ⟨cS,cS⟩,_,gL,v,e _ ⟨_,gL,oO _ cS,mJ _ cS⟩⟩) ?_;rintro _ ⟨y,rfl,M,N⟩;exact⟨_,gL,.inl ⟨eH,eH⟩,z,_,gL,f,h _ (oO _ eH) (mJ _ f)⟩
def ZI:Ft P w base T.D_57 2 Sz:=by
 refine qC T.D_57.F Qh λv nd ds Q h=>?_;obtain⟨ns,m,rfl,u,vp,vq,h⟩:=h;refine⟨_,(aW (ss 2 nd bI)
 (aW (ss 3 nd (cd (jI T) v (aA (aD 0) (aA aN aF))))
 (aW (iN (cN fR jN (aD 3) aN)
 (aW (AG (i:=4) nd gL (by first | exact g4 gL | exact f7 gL) (fU (V9 (by repeat constructor))))
 (aW (ss 5 nd (cd (jI T) v (aA (aD 0) (aA aN aF))))
 (bQ (cK (dZ gB mV (cE bE dE (dZ gB mV (aD 4) (eL (aD 5)) fG) (dZ gB mV (aD 4) fG (eL (aD 5)))) fG (eL (aD 1)))))))
 fM)
 (aW (ss 6 nd (mL bI (aA (el (fr:=[wy,wz 2,wz 0]) (N':=["_law_k","_law_letters","_law_tape_here"]) (tS (aA aN aF) (λh=>rE gL T.b_range h)) (λb=>⟨(eB (pk 0)),gQ,(bP aY cI (aD 1) (cd (jI T) v (aA (aD 2) (aA aN aF))))⟩)) aF) (λh ha=>gY bY cZ cX mK h ha)))
 (aW (iN (cN fR jN (aD 3) aN)
 (aW (ss 7 nd (cE bE dE aN (cd (jI T) v (aA (aD 0) (aA (cE wA NH aN (aD 1)) aF)))))
 (aW (mQ (i:=8) (fr:=[wy,wz 6,wz 7]) (N':=["_law_k","_law_base","_law_size"]) (tS (aA (aD 1) aF) (λh=>rE gL T.b_range h)) (λb=>⟨(eB (pk 0)),gQ,(dZ gB mV (aD 1) fG (eL (cE bE dE (aD 2) (aD 0))))⟩) (λhi hY=>kW (show pZ _ (aV (top 91)) ["_law_tape_here","_law_many","_law_letters","_law_way","_law_some","_law_turn","_law_base","_law_size","_law_names_here","_law_at","_law_start"] ["_law_k","_law_base","_law_size"] [wy,wz 6,wz 7]=wx from by decide +kernel) nd gL (by first | exact g4 gL | exact f7 gL) gL hi hY gL))
 (aW (ss 5 nd (cd (jI T) v (aA (aD 0) (aA (aD 1) aF))))
 (bQ (cK (cE bE dE (dZ gB mV (aD 8) (eL (aD 5)) fG) (dZ gB mV (aD 8) fG (eL (aD 5)))))))))
 fM)
 (aW (ss 7 nd (cE bE dE aN (cd (jI T) v (aA (aD 0) (aA aN aF)))))
 (aW (ss 9 nd (cd (jI T) v (aA (aD 0) (aA (aD 7) aF))))
 (aW (ss 10 nd (cd (jI T) v (aA (aD 0) (aA aN aF))))
 (bQ (cK (el (fr:=[wy,wz 6,wz 2,wz 7,wz 9,wz 10]) (N':=["_law_k","_law_base","_law_letters","_law_size","_law_at","_law_start"]) (tS (aA (aD 1) aF) (λh=>rE gL T.b_range h)) (λb=>⟨(eB (pk 0)),gQ,(cE bE dE (cE bE dE (dZ gB mV (aD 1) fG (eL (aD 4))) (bP aY cI (aD 2) (cE qQ MH (cE bE dE (aD 5) (aD 0)) aN))) (dZ gB mV (aD 1) (eL (cE bE dE (aD 4) aN)) (eL (aD 3))))⟩)))))))))))),?_⟩
 refine cL (.str iX) (λq f=>f) ?_;refine dP (λd=>∃w:Int,d=.int w) (λq f=>⟨_,gL,ns,4,gL,u,cS,cS,λr _ _=>f _ ⟨r,gL⟩⟩) ?_;rintro _ ⟨w,rfl⟩;have C:∀r:Int,0<=r->∃t:Nat,bW r=.int (t:Int)/\r=(t:Int):=λr g=>⟨r.toNat,by rw[iS g],(iS g).symm⟩;refine iZ (λb=>b=decide (w=0)) (λq f=>⟨_,gL,f _ gL⟩) (λ_=>?_) λ_=>?_
 ·refine cL (.list (EA.map aI)) (λq f=>⟨cS,f⟩) ?_;refine dP (λd=>∃t:Nat,d=.int (t:Int)) (λq f=>⟨_,gL,ns,12,gL,u,cS,cS,λr g _=>f _ ((C r g).imp λ_ e=>e.1)⟩) ?_;rintro _ ⟨t,rfl⟩;refine⟨_,gL,_,gL,_,gL,_,gL,?_,_,gL,?_⟩
  ·rw[hX,hX,aC,aC,sX,pQ,dF,bH];show 12-t+min t 12<=100000;lia
  ·show Q (.list (fY (fY (EA.map aI) (wz (t:Int)) wy++fY (EA.map aI) wy (wz (t:Int))) wy (wz (m:Int))));rw[hX,hX,<- cC,hX,sX,pQ,pQ];exact h _ (IV Oi t eH)
 ·unfold pW;dsimp only;refine dP (λd=>∃z:â,d=.str z/\z.cps.toList.length=8/\∀c∈z.cps.toList,c∈iX.cps.toList) (λq f=>?_) ?_
  ·refine⟨_,gL,?_⟩;refine QI (ts:=fA 8) (λR h=>⟨8,gL,cS,cS,h⟩) (λ_ _ y=>∃c,c∈iX.cps.toList/\y=.str ⟨#[c]⟩) cS (λj x q S f=>?_) λys o L=>?_
   ·refine⟨_,gL,_,gL,ns,26,gL,u,cS,cS,λr g E=>?_⟩;refine Å (wN (xs:=iX.cps.toList) (i:=r) g (by rw[C3];exact E)) λc W oh _=>?_;exact⟨cS,c,oh,f _ ⟨c,W,gL⟩⟩
   ·obtain⟨n,rfl,H⟩:=M1 (ys:=ys) λy iw=>by
     obtain⟨j,N,rfl⟩:=yS.mp iw;have rk:j<(fA 8).length:=by rw[<- o];exact N
     exact L j (fA 8)[j] _ (aL rk) (aL N)
    have p:n.length=8:=by rw[aC,kG]at o;exact o
    refine⟨n.map λc=>⟨#[c]⟩,by rw[bJ];rfl,?_,f _ ⟨_,gL,?_,?_⟩⟩
    ·rw[aC,bJ,p]
     have:(aXj ((λx:â=>x.length)∘λc=>(⟨#[c]⟩:â)) n).sum=n.length:=by
      clear p o L H
      induction n with
      |nil=>rfl
      |cons a l ih=>rw[aX,dU,ih,bD];show 1+_=_;lia
     rw[this,p];decide
    ·rw[show(Txt.join (c9 "") (n.map λc=>⟨#[c]⟩)).cps.toList=n from FY n];exact p
    ·rw[show(Txt.join (c9 "") (n.map λc=>⟨#[c]⟩)).cps.toList=n from FY n];exact H
  rintro _ ⟨z,rfl,B,M⟩
  have hz:z.length<=100000:=by
   have:z.length=z.cps.toList.length:=by simp[o4]
   lia
  refine iZ (λb=>b=decide (w=1)) (λq f=>⟨_,gL,f _ gL⟩) (λ_=>?_) λ_=>?_
  ·refine dP (λd=>∃k:Nat,d=.int (k:Int)/\1<=k/\k+m<=9) (λq f=>⟨_,gL,_,gL,ns,9-(m:Int),gL,u,eH,eH,λr g E=>f _ ⟨(1+r).toNat,by rw[iS eH],eH,eH⟩⟩) ?_;rintro _ ⟨k,rfl,J,rz⟩;refine cL (.list (((gA m).map λj:Nat=>Txt.slice z wy (wz ((k:Int)+(j:Int)))).map aI)) (λq f=>?_) ?_
   ·refine iR (ts:=fA m) (λR h=>⟨_,gL,(m:Int),gL,eH,eH,by simpa using h⟩) (λx=>match x with | .int j=>.str (Txt.slice z wy (wz ((k:Int)+j))) | _=>.none) (by rw[kG];lia) (λx q S f=>?_) ?_
    ·refine Â (aS.mp S) λj N Z=>?_;subst Z;exact⟨_,gL,_,gL,_,gL,hz,f⟩
    ·unfold fA;rw[bJ];rw[bJ]at f;exact f
   refine dP (λd=>∃t:Nat,d=.int (t:Int)) (λq f=>⟨_,gL,_,gL,ns,(m:Int),gL,u,eH,eH,λr g _=>f _ ((C r g).imp λ_ e=>e.1)⟩) ?_;rintro _ ⟨t,rfl⟩;have su:=ZU B M J rz
   have fin:∀ys:List â,L8 m ys->(fY (ys.map aI) (wz (t:Int)) wy).length+(fY (ys.map aI) wy (wz (t:Int))).length<=100000/\Q (.list (fY (ys.map aI) (wz (t:Int)) wy++fY (ys.map aI) wy (wz (t:Int)))):=λys L=>by
    have E:=L.1;rw[hX,hX,<- cC,aC,aC,sX,pQ,dF,bH];exact⟨eH,h _ (VB L t)⟩
   exact⟨_,gL,_,gL,_,gL,_,gL,fin _ su⟩
  ·dsimp only;refine dP (λd=>∃k:Nat,d=.int (k:Int)/\1<=k/\k<=8) (λq f=>⟨_,gL,ns,8,gL,u,cS,cS,λr g E=>f _ ⟨(1+r).toNat,by rw[iS eH],eH,eH⟩⟩) ?_;rintro _ ⟨k,rfl,J,ry⟩;refine dP (λd=>∃t:Nat,d=.int (t:Int)/\t<k) (λq f=>⟨_,gL,_,gL,ns,(k:Int),gL,u,eH,eH,λr g E=>f _ ⟨r.toNat,by rw[iS g],eH⟩⟩) ?_;rintro _ ⟨t,rfl,lq⟩;refine dP (λd=>∃s:Nat,d=.int (s:Int)) (λq f=>⟨_,gL,ns,26,gL,u,cS,cS,λr g _=>f _ ((C r g).imp λ_ e=>e.1)⟩) ?_;rintro _ ⟨s,rfl⟩;refine iR (ts:=fA m) (λR h=>⟨_,gL,(m:Int),gL,eH,eH,by simpa using h⟩) (λx=>match x with | .int j=>.str (KC z t k (oV ((s+j.toNat)%26))) | _=>.none) (by rw[kG];lia) (λx q S f=>?_) ?_
   ·refine Â (aS.mp S) λj N Z=>?_;subst Z;have e:((s:Int)+(j:Int))%26=(((s+j)%26:Nat):Int):=by lia
    have W:=EG (i:=(s+j)%26) (CO _ cS);have X:L2.atI iX.cps.toList (((s:Int)+(j:Int))%26)=wz (oV ((s+j)%26)):=by rw[e];exact L2.eR W
    refine Ä (O5 z B t k (oV ((s+j)%26))) λw1 w2=>?_;exact⟨_,gL,_,gL,hz,_,gL,_,gL,_,gL,(show(0:Int)<26 by decide),cS,_,X,w1,_,gL,_,gL,_,gL,hz,w2,f⟩
   ·unfold fA;rw[bJ];have:=h _ (VA B M (k:=k) (t:=t) (s:=s) (m:=m) ry lq eH);rw[bJ]at this;exact this
def Od:Ft P w base T.D_58 3 Ta:=by
 refine qC T.D_58.F Qi λs nd ds Q h=>?_;obtain⟨ns,f,v,rfl,p,om,vm,wb,wc,h⟩:=h;refine⟨_,(aW (ss 3 nd (cE bE dE aN (cd (jI T) s (aA (aD 0) (aA (aD 1) aF)))))
 (aW (ss 4 nd (cd (ZI T) s (aA (aD 0) (aA (aD 3) aF))))
 (aW (so 5 nd aF)
 (aW (sf (tS (aA (aD 3) aF) (λh=>rE gL T.b_range h)) (eB (pn 6 nd))
 (aW (ss 7 nd (cE bE dE aN (cd (jI T) s (aA (aD 0) (aA (cE wA NH (aD 2) aN) aF)))))
 (aW (ss 8 nd (aD 4))
 (aW (iN (rL (CT (cN IP sE (aD 7) (aD 3)) (yX (cN IP sE (cd (jI T) s (aA (aD 0) (aA aN aF))) aN))))
 (bQ (ss 8 nd (cd (ZI T) s (aA (aD 0) (aA (aD 7) aF)))))
 fM)
 (bQ (zB (pv 5) (eV (aA (bP aY cI (aD 4) (aD 6)) (aA (cY vC (aA (dZ gB mV (aD 8) fG (eL (aD 7))) aF) kH T.b_tuple qH) aF))) (pb:=λh=>gK (gY cV gT gS nY (pv 5) h))))))))
 (rP 5 (bQ (cK (eV (aA (cY vC (aA (aD 5) aF) kH T.b_tuple qH) (aA (cY vC (aA (cd (ZI T) s (aA (aD 0) (aA (cE bE dE aN (cd (jI T) s (aA (aD 0) (aA aN aF)))) aF))) aF) kH T.b_tuple qH) aF)))))))))),?_⟩
 refine dP (λd=>∃m:Nat,d=.int (m:Int)/\1<=m/\m<=f) (λq c=>⟨_,gL,_,gL,ns,(f:Int),gL,p,eH,eH,λr h0 u=>c _ ⟨(1+r).toNat,by rw[iS eH],eH,eH⟩⟩) ?_;rintro _ ⟨m,rfl,W,vw⟩;refine dP (λd=>∃a,L8 m a/\d=.list (a.map aI)) (λq c=>⟨_,gL,_,gL,ns,m,gL,p,W,eH,λa t=>c _ ⟨a,t,gL⟩⟩) ?_;rintro _ ⟨a,t,rfl⟩;refine qY [] cS (λq c=>c) ?_
 refine pT (λR h=>⟨_,gL,(m:Int),gL,eH,eH,by simpa using h⟩)
  (λj σ=>∃(fs:List (â×List â))(X s7 s8:Sl),σ=[.val (jP ns),.val (.int f),.val (.int v),.val (.int m),.val (.list (a.map aI)),.own (fs.map qE),X,s7,s8]/\fs.map (·.1)=a.take j/\∀x∈fs,2<=x.2.length/\x.2.length<=v/\L8 x.2.length x.2) ⟨[],_,_,_,gL,gC,λx hx=>by simp at hx⟩ (λj x v4 hx J=>?_) λv4 J=>?_
 ·refine Ä (uW hx) λhj Z=>?_;subst Z;refine ò J λfs X s7 s8 Z i l=>?_;subst Z;have B:j<a.length:=by rw[t.1];exact hj
  have y:fs.length<=j:=by
   have:=d8 iT i;rw[aC,bH]at this;lia
  refine dP (λd=>∃k:Nat,d=.int (k:Int)/\2<=k/\k<=v) (λq c=>⟨_,gL,_,gL,ns,(v:Int)-1,gL,p,eH,eH,λr h0 u=>c _ ⟨(2+r).toNat,by rw[iS eH],eH,eH⟩⟩) ?_;rintro _ ⟨k,rfl,M,S⟩;refine cL (.list (a.map aI)) (λq c=>⟨_,gL,c⟩) ?_
  have fin:∀(o:List â)(n:Nat),L8 n o->k<=n->∃(g:List (â×List â)),g.map (·.1)=a.take (j+1)/\(∀x∈g,2<=x.2.length/\x.2.length<=v/\L8 x.2.length x.2)/\g.map qE=fs.map qE++[qE (a[j],o.take k)]:=λo n hw N=>by
   have hk:=VC hw N;refine⟨fs++[(a[j],o.take k)],?_,λx hx=>?_,by rw[cC];rfl⟩
   ·rw[cC,i,dD,aL B];rfl
   ·rcases bM.mp hx with hx | hx
    ·exact l x hx
    ·rw[aU.mp hx];rw[hk.1];exact⟨M,S,hk⟩
  have C:=aBx B;refine iZ (λb=>b=ww->k<=m) (λq c=>?_) (λ_=>?_) λhF=>?_
  ·refine⟨_,gL,_,gL,?_⟩;show(if decide ((k:Int)>(m:Int))=wx then _ else _);by_cases e:(k:Int)>(m:Int)
   ·rw[b7 (a9 e)];exact c _ λz=>by cases z
   ·rw[a8 (by simpa using e)];exact⟨_,gL,ns,4,gL,p,cS,cS,λr _ _=>c _ λ_=>by lia⟩
  ·refine⟨_,gL,_,gL,ns,k,gL,p,eH,eH,λo hw=>?_⟩;refine Å (fin o k hw (aP _)) λg u E H=>?_;refine xD (qE (a[j],o.take k)) gL (by rw[aC];lia) (λq c=>⟨_,gL,_,gL,_,C,_,gL,_,gL,?_⟩) ⟨g,_,_,_,by rw[H];rfl,u,E⟩;show _/\q (.tuple [.str a[j],.tuple (fY (o.map aI) wy (wz (k:Int)))]);rw[hX,pQ];exact⟨gJ,c⟩
  ·refine Å (fin a m t (hF gL)) λg u E H=>?_;refine xD (qE (a[j],a.take k)) gL (by rw[aC];lia) (λq c=>⟨_,gL,_,gL,_,C,_,gL,_,gL,?_⟩) ⟨g,_,_,_,by rw[H];rfl,u,E⟩;show _/\q (.tuple [.str a[j],.tuple (fY (a.map aI) wy (wz (k:Int)))]);rw[hX,pQ];exact⟨gJ,c⟩
 ·refine ò J λfs X s7 s8 Z i l=>?_;subst Z;rw[kG,fJ (by rw[t.1];exact aP _)]at i
  have y:fs.length=m:=by
   have:=d8 iT i;rw[aC,t.1]at this;exact this
  refine⟨_,gL,_,gL,_,gL,_,gL,ns,3,gL,p,cS,cS,λr h0 u=>⟨ns,(2+r).toNat,by rw[iS eH],p,eH,eH,λan ha=>⟨gJ,?_⟩⟩⟩;have L:=ha.1;refine h fs an ⟨eH,eH,by rw[i,y];exact t,λx hx=>?_,eH,eH,by rw[L];exact ha,eH⟩ eH λx hx=>(l x hx).2.1;obtain⟨x1,x2,x3⟩:=l x hx;exact⟨x1,eH,x3⟩
def ZH:Ft P w base T.D_59 1 Tc:=by
 refine qC T.D_59.F Qj λM nd ds Q h=>?_;obtain⟨fs,an,k,n,v,s,jM,B,rfl,F,d,hs,X,h⟩:=h;refine⟨_,(aW (aDg (bP aY cI (aD 1) aN) (JF (qP gL (fB (pn 3 nd) (fB (pn 4 nd) (fB (pn 5 nd) nO))))) (λhe hg=>B1 he hg))
 (aW (ss 6 nd (xL (el (fr:=[wy]) (N':=["_law_field"]) (eX (bP aY cI (aD 0) aN)) (λb=>⟨(eB (pk 0)),gQ,(bP aY cI (aD 0) aN)⟩)) (aA (aD 4) aF) (λh t=>gY cV oB oA (xF M) h t)))
 (aW (ss 7 nd (bP aY cI (bP aY cI (bP aY cI (aD 0) aN) (aD 6)) aN))
 (aW (iN (cN K4 SO (bP aY cI (aD 2) (aD 6)) qS)
 (bQ (cK (bP aY cI (aD 1) aN)))
 fM)
 (aW (iN (rL (CT (cN fR jN (bP aY cI (aD 2) (aD 6)) (aD 5)) (yX (rL (vR (cN fR jN (aD 3) bI) (sL (cN IM sE (GB (aD 7) (aA (bP aY cI (aD 2) (aD 6)) aF) (λh t=>gY tF tE tD (FQ M) h t)) (GB (aD 7) (aA (aD 5) aF) (λh t=>gY tF tE tD (FQ M) h t)))))))))
 (bQ (cK bI))
 fM)
 (bQ (cK bI))))))),?_⟩
 refine Ä (mT X) λqp H=>?_;have n5:=F.n5;refine Ü (Vq F d) λa p m o u L=>?_
 generalize jx fs n=j at p
 have rh:=(aJ.mp p).1;have W:(fs.map (·.1)).idxOf n=j:=by rw[<- o];exact EB F p
 have g:B[j]?=wz B[j]:=aL eH
 generalize oh:B[j]=c at g
 have i:=L2.eR g;have J:L2.atI (fs.map qE) (j:Int)=wz (qE a):=L2.eR (by rw[aO,p];rfl);have hok:=H j a c p g;rw[E3 F p g o]at h;refine X7 (λq d=>⟨_,gL,_,L2.eR gL,d⟩) ?_;refine cL (.int (j:Int)) (λq d=>?_) ?_
 ·refine iR (λR h=>⟨_,gL,_,gL,_,gL,h⟩) fst (by rw[aC];lia) (λx q hx d=>?_) ?_
  ·refine Â (aS.mp hx) λf hf x=>?_;subst x;exact⟨_,gL,_,gL,d⟩
  ·have e:(fs.map qE).map fst=(fs.map (·.1)).map aI:=by rw[bJ,bJ];rfl
   rw[e];have:=tQ F.nd.2.1 (aS.mpr ⟨a,m,o⟩);rw[W]at this;exact⟨_,gL,_,gL,_,j,gL,this,eH,d⟩
 refine cL (.tuple (a.2.map aI)) (λq d=>⟨_,gL,_,gL,_,gL,_,J,_,gL,d⟩) ?_;refine iZ (λb=>b=uV c) (λq d=>⟨_,gL,_,gL,_,i,d _ gL⟩) (λE=>?_) λC=>?_
 ·cases c with
  |none=>exact⟨_,gL,_,L2.eR gL,h⟩
  |_=>cases E
 try unfold pW
 dsimp only
 cases c with
 |none=>cases C
 |str z=>
  have S:=c6 hok;have r:Q (.str (if k="is" then(if z=v then "yes" else "no")else if a.2.idxOf z<=a.2.idxOf v then "yes" else "no")):=h
  have N:(if(decide (z=v)||(decide (k="upto")&&decide ((a.2.idxOf z:Int)<(a.2.idxOf v:Int))))=wx then("yes":â)else "no")=(if k="is" then(if z=v then("yes":â)else "no")else if a.2.idxOf z<=a.2.idxOf v then("yes":â)else "no"):=by
   by_cases e:z=v
   ·lia
   ·rw[b8 e,BL];rcases L with rfl | rfl
    ·rw[b7 gL,a8 e,a8];rw[b8 cR];simp
    ·rw[a8 (show¬("upto":â)="is" by decide +kernel),a9 gL,kQ]
     have di:a.2.idxOf z≠a.2.idxOf v:=λz'=>e (by
      rw[<- (oJ (kO.mpr S)),<- (oJ (kO.mpr u))];congr 1)
     lia
  rw[<- N]at r;refine iZ (λb=>b=(decide (z=v)||(decide (k="upto")&&decide ((a.2.idxOf z:Int)<(a.2.idxOf v:Int))))) (λq d=>⟨_,gL,_,gL,_,i,_,gL,?_⟩) (λE=>?_) λC=>?_
  ·show(if decide (z=v)=wx then q wx else _);by_cases e:z=v
   ·lia
   ·rw[a8 (by lia)];refine⟨_,gL,?_⟩;show(if decide (k="upto")=wx then _ else q ww);by_cases y:k="upto"
    ·rw[b7 (a9 y)];refine⟨_,gL,_,gL,_,gL,_,gL,_,i,_,_,gL,(tQ (F.vals m) S),_,gL,_,gL,_,gL,_,_,gL,(tQ (F.vals m) u),?_⟩;refine d _ ?_;lia
    lia
  ·rw[<- E,b7 rfl]at r;exact r
  ·rw[<- C,a8 cS]at r;exact r
 |_=>cases hok
def Oe:Ft P w base T.D_60 1 Td:=by
 refine qC T.D_60.F Qk λC nd B Q h=>?_;obtain⟨fs,an,rfl,F,h⟩:=h;refine⟨_,(aW (so 1 nd aF)
 (aW (sf (eX (bP aY cI (aD 0) aN)) (pU (qP gL (fB (pn 2 nd) (fB (pn 3 nd) nO))))
 (bQ (iN (cN fR jN (cB jB (aA (aD 3) aF) cJ T.b_len fV) aN)
 (bQ (zB (pv 1) (eV (aA bI (aA (aD 2) (aA (bP aY cI (aD 3) aN) aF)))) (pb:=λh=>gK (gY cV gT gS nY (pv 1) h))))
 (aW (sF 1 nd (TH (pv 1) (el (fr:=[wy,wz 2]) (N':=["_law_value","_law_name"]) (eX (aD 3)) (λb=>⟨(eB (pk 0)),gQ,(eV (aA bI (aA (aD 1) (aA (aD 0) aF))))⟩))))
 (bQ (sF 1 nd (TH (pv 1) (el (fr:=[wy,wz 2]) (N':=["_law_value","_law_name"]) (eX (dZ gB mV (aD 3) (eL aN) (eL (cE wA NH (cB jB (aA (aD 3) aF) cJ T.b_len fV) aN)))) (λb=>⟨(eB (pk 0)),gQ,(eV (aA bI (aA (aD 1) (aA (aD 0) aF))))⟩)))))))))
 (rP 1 (bQ (cK (aD 1)))))),?_⟩
 have n5:=F.n5;refine qY [] gJ (λq a=>a) ?_
 refine pT (λR h=>⟨_,gL,_,gL,_,gL,h⟩)
  (λi z=>∃k s3:Sl,z=[.val (gM fs an),.own (iH (fs.take i)),k,s3]) ⟨_,_,gL⟩ (λi x l d j=>?_) λl j=>?_
 ·refine À j λk s3 g=>?_;subst g;rw[aO]at d;refine Â (dB.mp d) λf c g=>?_;subst g;refine ñ (F.vs f (aZ c)) λH J y=>?_;have t:=nV F (fs.take i) λg u=>dX u;have v:(fs.take i).length<=5:=by rw[bH];lia
  have e:iH (fs.take (i+1))=iH (fs.take i)++OU f:=by
   unfold iH;rw[dD,c,cC,WI];show _++[OU f].flatten=_;rw[O2]
  refine⟨_,_,gL,?_⟩;by_cases m:f.2.length=2
  ·refine Xi (λq a=>⟨_,gL,a _ (a9 (by rw[aC];lia))⟩) ?_;have n:f.2[0]?=wz (f.2[0]' eH):=aL eH
   have eq:OU f=[rA "is" f (f.2[0]' eH)]:=by
    have p:zI f=[]:=by
     unfold zI;rw[show f.2.length-3=0 by lia];rfl
    unfold OU;rw[p];unfold G8;rw[b7 m]
    have o:f.2.take 1=[f.2[0]' eH]:=by
     rw[dD,n];rfl
    rw[o];rfl
   refine xD (rA "is" f (f.2[0]' eH)) gL eH (λq a=>⟨_,gL,_,gL,_,L2.eR (by rw[aO,n];rfl),gJ,a⟩) ⟨.val (.str f.1),.val (.tuple (f.2.map aI)),?_⟩;rw[e,eq];rfl
  ·refine B2 (λb=>b=ww) (λq a=>⟨_,gL,a _ (b8 (by rw[aC];lia))⟩) (λs=>by cases s) λ_=>?_;refine(show qO (M2 1 _) _ _ _ from⟨_,gL,?_⟩);refine iR (λR h=>⟨_,gL,_,gL,h⟩) (λx=>.tuple [.str "is",.str f.1,x]) (by rw[aC];lia) (λx q d a=>⟨_,gL,_,gL,gJ,a⟩) ?_;rw[bJ];refine⟨_,gL,by rw[aC];lia,?_⟩;dsimp only;refine(show M2 1 _ _ _ from⟨_,gL,?_⟩)
   have r:fY (f.2.map aI) (wz 1) (wz (((f.2.map aI).length:Int)-2))=(zI f).map aI:=by
    rw[aC,show(f.2.length:Int)-2=((f.2.length-2:Nat):Int) by lia];have:=Hn (f.2.map aI) 1 (f.2.length-2);rw[show f.2.length-2-1=f.2.length-3 by lia]at this;unfold zI;rw[aLw,aLx];exact this
   have E:(zI f).length<=5:=by unfold zI;rw[bH,dF];lia
   refine iR (ts:=(zI f).map aI) (λR h=>?_) (λx=>.tuple [.str "upto",.str f.1,x]) (by rw[aC];lia) (λx q d a=>⟨_,gL,_,gL,gJ,a⟩) ?_
   ·rw[<- r]at h;exact⟨_,gL,_,gL,_,gL,h⟩
   rw[bJ];refine⟨_,gL,by rw[aR,aC,aC];lia,.val (.str f.1),.val (.tuple (f.2.map aI)),?_⟩;rw[e];unfold OU G8;rw[a8 m,<- fC];rfl
 ·refine À j λk s3 g=>?_;subst g;rw[aC,eI];exact⟨_,gL,_,gL,by rw[<- D5];exact h⟩
def Gu:Ft P w base T.D_61 1 Te:=by
 refine qC T.D_61.F Ql λf nd i Q h=>?_;obtain⟨fs,an,rs,rfl,F,hok,g,h⟩:=h;refine⟨_,(bQ (cK (el (fr:=[wy,wz 1]) (N':=["_law_answer","_law_rows"]) (eX (bP aY cI (aD 0) aN)) (λb=>⟨(eB (pk 0)),gQ,(cB jB (aA (el (fr:=[wy,wz 0]) (N':=["_law_row","_law_answer"]) (eX (aD 1)) (λb=>⟨(eB (pk 0)),(F4 (cN fR jN (bP aY cI (aD 0) aN) (aD 1))),(aD 0)⟩)) aF) cJ T.b_len fV)⟩)))),?_⟩;have a4:=F.a4;refine(iR (λR h=>⟨_,gL,_,gL,_,gL,h⟩) (yr rs) (by rw[aC];lia) (λx q d c=>?_) ?_)
 ·refine Â (aS.mp d) λa j y=>?_;subst y;dsimp only[qG,vJ,DN];refine AX (λR h=>⟨_,gL,_,gL,h⟩) (λx=>match x with | .tuple [_,.str z]=>decide (z=a) | _=>ww) id (by rw[aC];lia) (λx q d c=>?_) (λx q d c=>⟨_,gL,c⟩) ?_
  ·refine Â (aS.mp d) λr f y=>?_;subst y;exact⟨_,gL,_,gL,_,gL,c⟩
  ·rw[yT,wV]
   have e:((rs.filter ((λx:D=>match x with | .tuple [_,.str z]=>decide (z=a) | _=>ww)∘eJ)).map eJ).length=CI rs a:=by
    rw[aC];unfold CI;rw[G4];rfl
   show q (.int ((((rs.filter ((λx:D=>match x with | .tuple [_,.str z]=>decide (z=a) | _=>ww)∘eJ)).map eJ).length:Nat):Int));rw[e];exact c
 ·have e:(an.map aI).map (yr rs)=(jU an rs).map bW:=by
   unfold jU;rw[bJ,bJ];rfl
  rw[e];exact h
def ZG:Ft P w base T.D_62 2 Tf:=by
 refine qC T.D_62.F Qm λl nd o Q h=>?_;obtain⟨fs,an,rs,rfl,F,hok,j,h⟩:=h;refine⟨_,(aW (ss 2 nd (cd (Gu T) l (aA (aD 0) (aA (aD 1) aF))))
 (bQ (cK (cE wA NH (cE gD oR (cB jB (aA (aD 1) aF) cJ T.b_len fV) (cB jB (aA (aD 1) aF) cJ T.b_len fV)) (cB Fb (aA (el (fr:=[wy]) (N':=["_law_count"]) (eX (aD 2)) (λb=>⟨(eB (pk 0)),gQ,(cE gD oR (aD 0) (aD 0))⟩)) aF) (yK gL) T.b_sum Hi))))),?_⟩
 have a4:=F.a4;refine cL (.list ((jU an rs).map bW)) (λq i=>⟨_,gL,_,gL,fs,an,rs,gL,F,hok,j,i⟩) ?_;have d:(jU an rs).length=an.length:=by unfold jU;rw[aC]
 have g:∀c∈jU an rs,0<=c/\c<=(rs.length:Int):=λc f=>by
  refine Â (aS.mp f) λa _ z=>?_;subst z;have:=Hm rs a;lia
 refine⟨_,gL,_,gL,.inl ⟨by rw[aC];lia,by rw[aC];lia⟩,?_⟩;dsimp only[qG,vJ,DN];refine iR (λR h=>⟨_,gL,_,gL,h⟩) Bx (by rw[aC,d];lia) (λx q m i=>?_) ?_
 ·refine Â (aS.mp m) λc f z=>?_;subst z;have:=g c f;exact⟨_,gL,_,gL,.inl ⟨eH,eH⟩,i⟩
 ·have e:((jU an rs).map bW).map Bx=((jU an rs).map λc=>c*c).map bW:=by
   rw[bJ,bJ];rfl
  rw[e];refine⟨_,gL,λn k=>?_,by rw[aC,d];lia,?_⟩
  ·refine Â (aS.mp k) λc f z=>?_;subst z;have:=g c f;have p:c*c<=60*60:=aLz eH eH eH eH;exact⟨(aLy eH eH),eH⟩
  ·show Q (.int ((((rs.map eJ).length:Nat):Int)*(((rs.map eJ).length:Nat):Int)-((jU an rs).map λc=>c*c).sum));rw[aC,(Xy F hok)];exact h
def Gv:Ft P w base T.D_64 2 Ti:=by
 refine qC T.D_64.F Qp λN nd ds Q h=>?_;obtain⟨ns,fs,an,rfl,L,F,h⟩:=h;refine⟨_,(aW (so 2 nd aF)
 (aW (sf (eX (bP aY cI (aD 1) aN)) (pU (qP gL (fB (pn 3 nd) (fB (pn 4 nd) nO))))
 (aW (ss 5 nd (bP aY cI (aD 4) (cd (jI T) N (aA (aD 0) (aA (cB jB (aA (aD 4) aF) cJ T.b_len fV) aF)))))
 (aW (iN (cN fR jN (cd (jI T) N (aA (aD 0) (aA aN aF))) aN)
 (bQ (ss 5 nd qS))
 fM)
 (bQ (zB (pv 2) (aD 5) (pb:=λh=>gK (gY cV gT gS nY (pv 2) h)))))))
 (rP 2 (bQ (cK (eV (aA (cY vC (aA (aD 2) aF) kH T.b_tuple qH) (aA (bP aY cI (bP aY cI (aD 1) aN) (cd (jI T) N (aA (aD 0) (aA (cB jB (aA (bP aY cI (aD 1) aN) aF) cJ T.b_len fV) aF)))) aF)))))))),?_⟩
 have n5:=F.n5;refine qY [] gJ (λq n=>n) ?_
 refine pT (λR h=>⟨_,gL,_,gL,_,gL,h⟩)
  (λi S=>∃(b:List D)(s3 p s:Sl),S=[.val (jP ns),.val (gM fs an),.own b,s3,p,s]/\b.length=i/\∀(k:Nat) f c,fs[k]?=wz f->b[k]?=wz c->OV f c=wx) ⟨[],_,_,_,gL,gL,λk f c _ e=>by simp at e⟩ (λi x W X y=>?_) λW y=>?_
 ·refine ò y λb s3 p s r l m=>?_;subst r;rw[aO]at X;refine Â (dB.mp X) λf E r=>?_;subst r;have o:=aZ E;have qz:=(aJ.mp E).1;have v2:=(F.vs f o).1;have v5:=(F.vs f o).2.1;refine⟨_,_,gL,?_⟩
  have next:∀d:D,OV f d=wx->(∃(j:List D)(s3 p s:Sl),[Sl.val (jP ns),.val (gM fs an),.own (b++[d]),.val (.str f.1),.val (.tuple (f.2.map aI)),.val d]=[.val (jP ns),.val (gM fs an),.own j,s3,p,s]/\j.length=i+1/\∀(k:Nat) g c,fs[k]?=wz g->j[k]?=wz c->OV g c=wx):=λd hd=>
   ⟨_,_,_,_,gL,by rw[aR];show _+1=_;lia,λk g c H e=>by
    by_cases hk:k<b.length
    ·rw[eQ hk]at e;exact m k g c H e
    ·rw[dY eH]at e
     have J:k=i:=by
      have:=(aJ.mp e).1;simp at this;lia
     subst J;rw[E]at H;cases H;rw[show k-b.length=0 by lia]at e;cases e;exact hd⟩
  refine dP (λd=>OV f d=wx) (λq n=>⟨_,gL,_,gL,_,gL,ns,(f.2.length:Int),by rw[aC],L,eH,eH,λr u v=>?_⟩) ?_
  ·refine Å (wN (xs:=f.2.map aI) u (by rw[aC];exact v)) λt M B _=>?_;refine Â (aS.mp M) λz hz r=>?_;subst r;exact⟨_,B,n _ (a9 hz)⟩
  intro d hd;refine aDr (λ_=>True) (λS=>∃d:D,OV f d=wx/\S=[.val (jP ns),.val (gM fs an),.own b,.val (.str f.1),.val (.tuple (f.2.map aI)),.val d]) (λq n=>⟨_,gL,ns,5,gL,L,cS,cS,λr _ _=>n _ trivial⟩) (λ_ uv hD=>hD _ ⟨.none,gL,gL⟩) (λ_=>⟨d,hd,gL⟩) ?_;rintro _ ⟨d,hd,rfl⟩;exact xD d gL eH (λq n=>⟨_,gL,n⟩) (next d hd)
 ·refine ò y λb s3 p s r l m=>?_;subst r;rw[aC]at l;refine⟨_,gL,_,gL,_,gL,_,gL,_,gL,_,gL,_,gL,ns,(an.length:Int),by rw[aC],L,by have:=F.a2;lia,by have:=F.a4;lia,λr u v=>?_⟩;refine Å (wN (xs:=an.map aI) u (by rw[aC];exact v)) λt M B _=>?_;refine Â (aS.mp M) λa C r=>?_;subst r;exact⟨_,B,gJ,h (b,a) ⟨Mx l m,C⟩⟩
def aDa(dd:Nat)
  (N:Ft P w base T.D_63 (8+dd) (vT dd)):Fj P w base T.D_63 (8+dd+1) (mS K (vT (dd+1))):=by
 refine qC T.D_63.F Qo λs nd ds Q h=>?_;obtain⟨fs,an,rs,d,m,rfl,F,o,hl,hd,hm,h⟩:=h;refine⟨_,(aW (ss 4 nd (cd (hk:=by lia) (Gu T) s (aA (aD 0) (aA (aD 1) aF))))
 (aW (ss 5 nd (eV (aA bI (aA (bP aY cI (bP aY cI (aD 0) aN) (xL (aD 4) (aA (cB Fa (aA (aD 4) aF) (yL gL) T.b_max Hh) aF) (λh ha=>gY cV oB oA (xF s) h ha))) aF))))
 (aW (iN (rL (CT (cN (FI s) uS (aD 2) aN) (yX (cN (FI s) uS (aD 1) (fU aF)))))
 (bQ (cK (aD 5)))
 fM)
 (aW (ss 6 nd qS)
 (aW (ss 7 nd (cd (hk:=by lia) (ZG T) s (aA (aD 0) (aA (aD 1) aF))))
 (aW (ss 8 nd (cB jB (aA (aD 1) aF) cJ T.b_len fV))
 (aW (sf (eX (cd (hk:=by lia) (Oe T) s (aA (aD 0) aF))) (eB (pn 9 nd))
 (bQ (sf (eX (fU (aA bI (aA bI aF)))) (eB (pn 10 nd))
 (aW (ss 11 nd (eV (aA bI (aA (aD 9) (aA (aD 10) aF)))))
 (aW (mQ (i:=12) (fr:=[wy,wz 0,wz 11]) (N':=["_law_row","_law_form_here","_law_knot"]) (eX (aD 1)) (λb=>⟨(eB (pk 0)),(F4 (cN fR jN (cd (hk:=by lia) (ZH T) s (aA (aD 1) (aA (aD 2) (aA (bP aY cI (aD 0) aN) aF)))) bI)),(aD 0)⟩) (λhi hY=>kW (show pZ _ (aV (top 97)) ["_law_form_here","_law_rows","_law_deep","_law_few","_law_counts_here","_law_leaf","_law_chosen","_law_least_top","_law_least_bottom","_law_question","_law_stray","_law_knot","_law_yes","_law_no","_law_top","_law_bottom"] ["_law_row","_law_form_here","_law_knot"] [wy,wz 0,wz 11]=wx from by decide +kernel) nd gL (by first | exact g4 gL | exact f7 gL) gL hi hY gL))
 (aW (mQ (i:=13) (fr:=[wy,wz 0,wz 11]) (N':=["_law_row","_law_form_here","_law_knot"]) (eX (aD 1)) (λb=>⟨(eB (pk 0)),(F4 (cN fR jN (cd (hk:=by lia) (ZH T) s (aA (aD 1) (aA (aD 2) (aA (bP aY cI (aD 0) aN) aF)))) bI)),(aD 0)⟩) (λhi hY=>kW (show pZ _ (aV (top 97)) ["_law_form_here","_law_rows","_law_deep","_law_few","_law_counts_here","_law_leaf","_law_chosen","_law_least_top","_law_least_bottom","_law_question","_law_stray","_law_knot","_law_yes","_law_no","_law_top","_law_bottom"] ["_law_row","_law_form_here","_law_knot"] [wy,wz 0,wz 11]=wx from by decide +kernel) nd gL (by first | exact g4 gL | exact f7 gL) gL hi hY gL))
 (bQ (iN (rL (vR (cN IQ sE (cB jB (aA (aD 12) aF) cJ T.b_len fV) (aD 3)) (sL (cN IQ sE (cB jB (aA (aD 13) aF) cJ T.b_len fV) (aD 3)))))
 (aW (ss 14 nd (cE bE dE (cE gD oR (cd (hk:=by lia) (ZG T) s (aA (aD 0) (aA (aD 12) aF))) (cB jB (aA (aD 13) aF) cJ T.b_len fV)) (cE gD oR (cd (hk:=by lia) (ZG T) s (aA (aD 0) (aA (aD 13) aF))) (cB jB (aA (aD 12) aF) cJ T.b_len fV))))
 (aW (ss 15 nd (cE gD oR (cB jB (aA (aD 12) aF) cJ T.b_len fV) (cB jB (aA (aD 13) aF) cJ T.b_len fV)))
 (bQ (iN (cN IM sE (cE gD oR (aD 14) (aD 8)) (cE gD oR (aD 7) (aD 15)))
 (aW (ss 6 nd (eV (aA (aD 11) (aA (aD 12) (aA (aD 13) aF)))))
 (aW (ss 7 nd (aD 14))
 (bQ (ss 8 nd (aD 15)))))
 fM))))
 fM))))))))
 (aW (iN (cN K4 SO (aD 6) qS)
 (bQ (cK (aD 5)))
 fM)
 (aW (ss 12 nd (cd (hk:=by lia) N s (aA (aD 0) (aA (bP aY cI (aD 6) aN) (aA (cE wA NH (aD 2) aN) (aA (aD 3) aF))))))
 (bQ (cK (cE bE dE (bP aY cI (aD 6) aN) (eV (aA (aD 12) (aA (cd (hk:=by lia) N s (aA (aD 0) (aA (bP aY cI (aD 6) aN) (aA (cE wA NH (aD 2) aN) (aA (aD 3) aF))))) aF))))))))))))))),?_⟩
 show qO _ _ _ [.val (gM fs an),.val (.list (rs.map eJ)),.val (.int d),.val (.int m),.un,.un,.un,.un,.un,.un,.un,.un,.un,.un,.un,.un];have a2:=F.a2;have a4:=F.a4;refine cL (.list ((jU an rs).map bW)) (λq k=>⟨_,gL,_,gL,fs,an,rs,gL,F,o,hl,k⟩) ?_;refine dP (λv=>∃a,GU an rs a/\v=jX (.say a)) (λq k=>?_) ?_
 ·have di:jU an rs≠[]:=λz=>by
   have:=d8 iT z;unfold jU at this;rw[aC]at this;simp at this;rw[this]at a2;simp at a2
  refine⟨_,gL,_,gL,_,gL,_,gL,_,gL,_,gL,di,λm hm W=>?_⟩;refine Â (F9 (jU an rs) m hm) λj hj on=>?_;have rh:=(aJ.mp hj).1;have qk:(jU an rs).length=an.length:=by unfold jU;rw[aC]
  have me:an[j]?=wz an[j]:=aL eH;have oi:(jU an rs)[j]?=wz ((CI rs an[j]:Nat):Int):=by unfold jU;rw[aO,me];rfl
  rw[hj]at oi;have em:m=((CI rs an[j]:Nat):Int):=c7 oi;refine⟨_,j,gL,IS hj on,eH,_,L2.eR (by rw[aO,me];rfl),gJ,k _ ⟨_,⟨j,me,λi b hb=>?_,λi b hi hb=>?_⟩,gL⟩⟩
  ·have:=W ((CI rs b:Nat):Int) (aZ (i:=i) (by unfold jU;rw[aO,hb];rfl));lia
  ·have kr:(jU an rs)[i]?=wz ((CI rs b:Nat):Int):=by unfold jU;rw[aO,hb];rfl
   have h1:=W _ (aZ kr);have h2:((CI rs b:Nat):Int)≠m:=λz=>on i hi (by rw[kr,z]);lia
 rintro _ ⟨a,ha,rfl⟩;have tu:=Lg F o hl
 have X:qI fs rs m=wy\/d=0->Q (jX (.say a)):=λz=>h _ (by
  cases d with
  |zero=>exact⟨a,ha,gL⟩
  |succ e=>
   unfold Gr;rw[z.resolve_right eH];exact⟨a,ha,gL⟩)
 refine iZ (λb=>b=(decide (d=0)||decide (rs=[]))) (λq k=>?_) (λhT=>?_) λhF=>?_
 ·refine⟨_,gL,⟨gL,gL,gJ⟩,?_⟩;show(if((d:Int)==0)=wx then q wx else _);by_cases z:d=0
  ·rw[b7 (by simp[z])];exact k _ (by rw[a9 z];rfl)
  ·rw[a8 (by simp[z])];refine⟨_,gL,gJ,⟨tu.lay,gL,bK (vO _ _) gJ⟩,?_⟩;refine k _ ?_;rw[b8 z,BL]
   cases rs with
   |nil=>rfl
   |cons r rs=>rfl
 ·refine⟨_,gL,X ?_⟩;have:=hT.symm;rw[oI,c8,c8]at this;rcases this with z | z
  ·exact .inr z
  ·subst z;exact .inl (OG fs m)
 have hz:=hF.symm;rw[yU,j5,j5]at hz;refine Ä hz λju mz=>?_;have hR:0<rs.length:=nT.mpr mz
 try unfold pW
 dsimp only;refine cL .none (λq k=>k) ?_;refine cL (.int ((GZ rs rs:Nat):Int)) (λq k=>⟨_,gL,_,gL,fs,an,rs,gL,F,o,hl,k⟩) ?_;refine cL (.int (rs.length:Nat)) (λq k=>⟨_,gL,?_⟩) ?_
 ·show q (.int (((rs.map eJ).length:Nat):Int));rw[aC];exact k
 have L:∀(p:Rw->Bool),(rs.filter p).length<=60:=λp=>bK (cH _ _) hl
 refine pT (ts:=(qs fs).map qD) (λR h=>⟨_,gL,fs,an,gL,F,_,gL,h⟩)
  (λi σ=>∃(s9 u B C E H J:Sl),σ=yn fs an rs d m a ((((qs fs).take i).flatMap vQ).foldl (MF fs rs m) wy) s9 u B C E H J) ⟨_,_,_,_,_,_,_,gL⟩ (λi x v4 M hP=>?_) λv4 hP=>?_
 ·refine ę hP λs9 u B C E H J Z=>?_;subst Z;rw[aO]at M;refine Â (dB.mp M) λf oo Z=>?_;subst Z;have td:=aZ oo;have my:=KZ td
  have eT:((qs fs).take (i+1)).flatMap vQ=((qs fs).take i).flatMap vQ++vQ f:=by
   rw[dD,oo,WJ];simp
  generalize ((qs fs).take i).flatMap vQ=pre at *
  rw[eT];refine(show YA _ _ _ _ _ from ?_)
  refine Cq (ts:=[.str "yes",.str "no"]) (λR h=>⟨gJ,_,gL,h⟩)
   (λj σ=>∃(u B C E H J:Sl),σ=yn fs an rs d m a ((pre++(vQ f).take j).foldl (MF fs rs m) wy) (.val (qD f)) u B C E H J) ?_ (λj x v4 M hP=>?_) λv4 hP=>?_
  ·rw[aIh,cM];exact⟨_,_,_,_,_,_,gL⟩
  ·refine Ě hP λu B C E H J Z=>?_;subst Z
   obtain⟨st,rfl,ng,hc⟩:∃st:â,x=.str st/\(st="yes"\/st="no")/\(vQ f)[j]?=wz (f,st):=by
    have hj:j<2:=(aJ.mp M).1;rcases(show j=0\/j=1 by lia)with rfl | rfl
    ·cases M;exact⟨_,gL,.inl gL,gL⟩
    ·cases M;exact⟨_,gL,.inr gL,gL⟩
   have e1:pre++(vQ f).take (j+1)=(pre++(vQ f).take j)++[(f,st)]:=by
    rw[dD,hc,<- fC];rfl
   have e2:(pre++(vQ f).take (j+1)).foldl (MF fs rs m) wy=MF fs rs m ((pre++(vQ f).take j).foldl (MF fs rs m) wy) (f,st):=by
    rw[e1,DG];rfl
   rw[e2]
   generalize (pre++(vQ f).take j).foldl (MF fs rs m) wy=S
   unfold yn;have g:∀l:List Rw,((((l.map eJ).length:Nat)):Int)=(l.length:Int):=λl=>by rw[aC]
   refine(show qO _ _ _ _ from ?_);refine cL (.tuple [.str "ask",qD f,.str st]) (λq k=>⟨_,gL,_,gL,gJ,k⟩) ?_;refine cL (.list ((yR fs (f,st) rs).map eJ)) (λq k=>?_) ?_
   ·refine AX (ts:=rs.map eJ) (λR h=>⟨_,gL,_,gL,h⟩) (zu fs f st "yes") id (by rw[aC];lia) (λx q M k=>?_) (λx q M k=>⟨_,gL,k⟩) ?_
    ·refine Â (aS.mp M) λr s Z=>?_;subst Z;exact⟨_,gL,_,gL,_,gL,_,gL,fs,an,f.1,f.2.1,f.2.2,st,[],r.1,gL,F,my,ng,(o r s).1,k⟩
    ·rw[TK];exact k
   refine cL (.list ((nR fs (f,st) rs).map eJ)) (λq k=>?_) ?_
   ·refine AX (ts:=rs.map eJ) (λR h=>⟨_,gL,_,gL,h⟩) (zu fs f st "no") id (by rw[aC];lia) (λx q M k=>?_) (λx q M k=>⟨_,gL,k⟩) ?_
    ·refine Â (aS.mp M) λr s Z=>?_;subst Z;exact⟨_,gL,_,gL,_,gL,_,gL,fs,an,f.1,f.2.1,f.2.2,st,[],r.1,gL,F,my,ng,(o r s).1,k⟩
    ·rw[TK,D9 F my ng o];exact k
   have ly:(yR fs (f,st) rs).length<=60:=L (yl fs (f,st));have ln:(nR fs (f,st) rs).length<=60:=L (λr=>!yl fs (f,st) r);refine B2 (λb=>b=okC fs rs m (f,st)) (λq k=>⟨_,gL,_,gL,?_⟩) (λhT=>?_) λhF=>?_
   ·show(if decide ((((((yR fs (f,st) rs).map eJ).length:Nat)):Int)>=m)=wx then _ else q ww);rw[g];unfold okC at k;by_cases z:m<=((yR fs (f,st) rs).length:Int)
    ·rw[b7 (a9 z)];refine⟨_,gL,_,gL,?_⟩;refine k _ ?_;rw[a9 z,kQ,g]
    ·rw[a8 (by rw[b8 z];decide)];exact k _ (by rw[b8 z];rfl)
   ·have hok:=hT.symm;have vh:=YD (fs:=fs) hl (f,st);have vj:=Xj (fs:=fs) hl S;refine cL (.int ((OS fs rs (f,st):Nat):Int)) (λq k=>⟨_,gL,_,gL,fs,an,yR fs (f,st) rs,gL,F,o.filt _,L _,_,gL,.inr ⟨by rw[g];lia,by rw[g];lia⟩,_,gL,_,gL,fs,an,nR fs (f,st) rs,gL,F,o.filt _,L _,_,gL,.inr ⟨by rw[g];lia,by rw[g];lia⟩,?_⟩) ?_
    ·have e:((OS fs rs (f,st):Nat):Int)=((GZ (yR fs (f,st) rs) (yR fs (f,st) rs):Nat):Int)*(((nR fs (f,st) rs).map eJ).length:Int)+((GZ (nR fs (f,st) rs) (nR fs (f,st) rs):Nat):Int)*(((yR fs (f,st) rs).map eJ).length:Int):=by
      unfold OS;rw[g,g,oN,gF,gF]
     rw[e]at k;exact k
    refine cL (.int ((MG fs rs (f,st):Nat):Int)) (λq k=>⟨_,gL,_,gL,.inr ⟨by rw[g];lia,by rw[g];lia⟩,?_⟩) ?_
    ·have e:((MG fs rs (f,st):Nat):Int)=(((yR fs (f,st) rs).map eJ).length:Int)*(((nR fs (f,st) rs).map eJ).length:Int):=by
      unfold MG;rw[g,g,gF]
     rw[e]at k;exact k
    have es:MF fs rs m S (f,st)=if OS fs rs (f,st)*xn fs rs S<yi fs rs S*MG fs rs (f,st)then wz (f,st)else S:=b7 hok;rw[es];refine B2 (λb=>b=decide (OS fs rs (f,st)*xn fs rs S<yi fs rs S*MG fs rs (f,st))) (λq k=>⟨_,gL,_,gL,.inr ⟨eH,eH⟩,_,gL,_,gL,.inr ⟨eH,eH⟩,?_⟩) (λhT=>?_) λhF=>?_
    ·refine k _ ?_;rw[k6,<- gF,<- gF,aTp]
    ·rw[b7 (c6 hT.symm)];refine cL (Dj fs rs (wz (f,st))) (λq k=>⟨_,gL,_,gL,_,gL,gJ,k⟩) ?_;refine cL (.int ((OS fs rs (f,st):Nat):Int)) (λq k=>⟨_,gL,k⟩) ?_;exact sP (.int ((MG fs rs (f,st):Nat):Int)) (λq k=>⟨_,gL,k⟩) ⟨_,_,_,_,_,_,gL⟩
    ·rw[a8 (i9 hF.symm)];exact⟨_,_,_,_,_,_,gL⟩
   ·have es:MF fs rs m S (f,st)=S:=a8 (by rw[<- hF];decide);rw[es];exact⟨_,_,_,_,_,_,gL⟩
  ·refine Ě hP λu B C E H J Z=>?_;subst Z;exact⟨_,_,_,_,_,_,_,gL⟩
 ·refine ę hP λs9 u B C E H J Z=>?_;subst Z
  have eq:((qs fs).take ((qs fs).map qD).length).flatMap vQ=MJ fs:=by
   rw[aC,eI];rfl
  rw[eq,Zu hm hR];unfold yn
  cases eb:qI fs rs m with
  |none=>
   refine BW (λq k=>⟨_,gL,k _ gL⟩) ?_;exact⟨_,gL,X (.inl eb)⟩
  |some c=>
   refine BX (λq k=>⟨_,gL,k _ gL⟩) ?_
   cases d with
   |zero=>exact b9 gL ju
   |succ e=>
    have es:((e+1:Nat):Int)-1=((e:Nat):Int):=by lia
    refine dP (λv=>∃y,Gr fs an m e (yR fs c rs) y/\v=jX y) (λq jv=>⟨_,gL,_,gL,_,gL,_,gL,_,gL,fs,an,_,e,m,by rw[<- es]<;>rfl,F,o.filt _,L _,eH,hm,λt ht=>jv _ ⟨t,ht,gL⟩⟩) ?_;rintro _ ⟨y,h0,rfl⟩;refine⟨_,gL,_,gL,_,gL,_,gL,_,gL,_,gL,_,gL,_,gL,fs,an,_,e,m,by rw[<- es]<;>rfl,F,o.filt _,L _,eH,hm,λn h1=>⟨gJ,gJ,h (.ask c.1.1 c.1.2.1 c.1.2.2 c.2 y n) ?_⟩⟩;unfold Gr;rw[eb];exact⟨y,n,h0,h1,gL⟩
def Of:Ft P w base T.D_63 15 Tg:=by
 have h:∀a:Nat,Ft P w base T.D_63 (8+a) (vT a):=λa=>by
  induction a with
  |zero=>exact F8 wG λc Q h=>ZX h
  |succ a b=>exact aDa T a b
 exact h 7
def Cy:Fm P w K mg base sC 18 kg ["self","form","deep","least"] (LD G A K Dk):=by
 exact Jc T.D_0.F Kq gL T.C_Desk T.n_Desk_form T.n_Desk_book λa c outer s H E b=>(nK (uQ (pv 0) (pv 1) gL) (D6 (uQ (pv 0) (K0 T.K_Book (Ki T) (b.mono cS) gL T.x_Book T.D_5.d .nil gZ (eF (pv 1) (eF (pv 2) (eF (pv 3) kX)))) gL)))
def Ev:Ft P w base T.D_41 1 Tz:=by
 refine qC T.D_41.F Pr λb nd a Q h=>?_;obtain⟨k,n,v,s,y,m,sd,rfl,h⟩:=h;refine⟨_,(bQ (cK (yJ (cN fR jN (aD 1) bI) (bP aY cI (aD 0) aN) (bP aY cI (aD 0) aN)))),?_⟩;refine⟨_,gL,?_⟩;show(if decide (sd="yes")=wx then _ else _);by_cases e:sd="yes"
 ·rw[b7 (a9 e)];rw[b7 e]at h;exact⟨_,gL,_,gL,h⟩
 ·rw[a8 (by lia)];rw[a8 e]at h;exact⟨_,gL,_,gL,h⟩
def Ew:Fj P w base T.D_42 4 (nS K T1):=by
 refine xc T.D_42.F Ps λi nd L Q h=>?_;obtain⟨fs,an,t,b,rfl,F,C,f,hd,h⟩:=h;refine⟨_,(aW (so 3 nd aF)
 (aW (ss 4 nd (aD 1))
 (aW (EY (rM (tv (cd (NF T) i (aA (aD 4) aF))))
 (aW (ss 5 nd (cd (Er T) i (aA (aD 0) (aA (bP aY cI (aD 4) aN) (aA (bP aY cI (aD 4) aN) (aA (aD 2) aF))))))
 (aW (zB (pv 3) (eV (aA (bP aY cI (aD 4) aN) (aA (aD 5) aF))) (pb:=λh=>gK (gY cV gT gS nY (pv 3) h)))
 (bQ (ss 4 nd (cd (Ev T) i (aA (aD 4) (aA (aD 5) aF))))))) (λf hb=>FD r8 f hb))
 (bQ (IB (pv 3)))))),?_⟩
 refine qY [] cS (λq c=>c) ?_;refine cL (jX t) (λq c=>⟨_,gL,c⟩) ?_;refine BV (λn H=>∃(p:Tr)(done:List D)(j:Sl),H=[.val (gM fs an),.val (jX t),.val (.tuple b),.own done,.val (jX p),j]/\n=p.dep/\oF fs an p/\done++lL fs p b=lL fs t b/\done.length+p.dep<=40) t.dep ⟨t,[],_,gL,gL,C,gL,by show 0+t.dep<=40;lia⟩ λn J r=>?_;refine Ú r λp done j q Z z d u=>?_;subst q Z;refine⟨!TB p,λq c=>⟨_,gL,p,gL,c⟩,?_⟩
 cases p with
 |say a=>
  show(if ww=wx then _ else _);rw[a8 cS];have e:lL fs (.say a) b=[]:=rfl;rw[e,cM]at d;subst d;exact⟨_,gL,h⟩
 |ask k n v s y m=>
  show(if wx=wx then _ else _);rw[b7 rfl];refine Ô z λc B E x=>?_;have l:(Tr.ask k n v s y m).dep=max y.dep m.dep+1:=rfl;rw[l]at u |-
  refine cL (.str (eD fs k n v s b)) (λq g=>⟨_,gL,_,gL,_,gL,_,gL,_,gL,_,gL,fs,an,k,n,v,s,b,gL,F,c,B,f,g⟩) ?_;refine R0 (.tuple [.tuple [.str k,.str n,.str v],.str (eD fs k n v s b)]) gL eH (λq c=>⟨_,gL,_,gL,_,gL,aB gL,c⟩) ?_;refine sP (jX (if eD fs k n v s b="yes" then y else m)) (λq c=>⟨_,gL,_,gL,k,n,v,s,y,m,_,gL,c⟩) ?_
  have o:done++[.tuple [.tuple [.str k,.str n,.str v],.str (eD fs k n v s b)]]++(if eD fs k n v s b="yes" then lL fs y b else lL fs m b)=lL fs t b:=by
   rw[<- d,fC];rfl
  refine⟨(if eD fs k n v s b="yes" then y else m).dep,?_,if eD fs k n v s b="yes" then y else m,_,_,gL,gL,?_,?_,?_⟩
  ·split<;>lia
  ·split
   ·exact E
   ·exact x
  ·rw[<- o];congr 1;split<;>rfl
  ·rw[aR,qL];split<;>lia
def Nw:Ft P w base T.D_43 5 T2:=by
 refine qC T.D_43.F Pt λf nd i Q h=>?_;obtain⟨fs,an,t,c,rfl,F,g,d,hd,h⟩:=h;refine⟨_,(bQ (cK (cY vC (aA (el (fr:=[wy,wy]) (N':=["question","side"]) (eX (GC (cF (Ew T) f (aA (aD 0) (aA (aD 1) (aA (aD 2) aF)))))) (λb=>⟨(pU (qP gL (fB (pk 0) (fB (pk 1) nO)))),gQ,(aD 1)⟩)) aF) kH T.b_tuple qH))),?_⟩;show qG (f1 QR) _ _ Q;dsimp only[qG,vJ,DN];have j:=AD (fs:=fs) t c;refine LF (λR h=>⟨_,gL,_,gL,_,gL,fs,an,t,c,gL,F,g,d,hd,_,gL,h⟩) za eH (BR t c) (λa b q k e=>⟨_,gL,e⟩) ?_;rw[BQ];exact h
def Nz:Ft P w base T.D_45 2 Ub:=by
 refine qC T.D_45.F Pv λo nd J Q h=>?_;refine ý h λt p g q z hd h=>?_;subst q;refine⟨_,(aW (ss 2 nd (aD 0))
 (aW (sf (eX (aD 1)) (eB (pn 3 nd))
 (aW (iN (rL (CT (tv (cd (NF T) o (aA (aD 2) aF))) (yX (cN (K3 o) uS (aD 3) (A9 gL T.c_SIDES T.t_SIDES)))))
 (bQ kU)
 fM)
 (bQ (ss 2 nd (cd (Ev T) o (aA (aD 2) (aA (aD 3) aF)))))))
 (bQ (cK (aD 2))))),?_⟩
 refine cL (jX t) (λq i=>⟨_,gL,i⟩) ?_
 refine pT (λR h=>⟨_,gL,_,gL,h⟩)
  (λk H=>∃(x:Tr)(s3:Sl),H=[.val (jX t),.val (.tuple (g.map aI)),.val (jX x),s3]/\vI x (g.drop k)=wz p) ⟨t,_,gL,z⟩ (λk d u B j=>?_) λu j=>?_
 ·refine Î j λx s3 q c=>?_;subst q;rw[aO]at B;refine Â (dB.mp B) λsd f q=>?_;subst q
  have E:g.drop k=sd::g.drop (k+1):=by
   rw[tK ((aJ.mp f).1)];congr 1;exact(aJ.mp f).2
  rw[E]at c;have r:=(K2 z) sd (aZ f)
  cases x with
  |say a=>cases c
  |ask C n v s y m=>
   have b:(if sd="yes" then vI y (g.drop (k+1))else if sd="no" then vI m (g.drop (k+1))else wy)=wz p:=c;refine BX (λq i=>⟨_,gL,.ask C n v s y m,gL,?_⟩) ?_
   ·show(if ww=wx then _ else _);rw[a8 cS]
    have l:tR sd=true:=by
     rcases r with rfl | rfl
     ·exact FO
     ·exact NK
    refine⟨_,gL,K7 (λy hy=>?_) ((kM l (m:=0) (aP _)).cd cS),i _ ?_⟩
    ·rcases aQ.mp hy with rfl | hy
     ·exact FO
     ·rw[aU.mp hy];exact NK
    ·have e:OW (.str sd) (.tuple ((["yes","no"]:List â).map aI))=yI ["yes","no"] (.str sd):=BG _ _;show(!OW (.str sd) (.tuple ((["yes","no"]:List â).map aI)))=ww;rw[e]
     have:yI ["yes","no"] (.str sd)=true:=by
      refine a9 ?_;grind
     lia
   refine sP (jX (if sd="yes" then y else m)) (λq i=>⟨_,gL,_,gL,C,n,v,s,y,m,sd,gL,i⟩) ⟨if sd="yes" then y else m,_,gL,?_⟩;lia
 ·refine Î j λx s3 q c=>?_;subst q;rw[aC,List.drop_length]at c;have:x=p:=by cases x<;>exact c7 c
  subst this;exact⟨_,gL,h⟩
def Ny:Ft P w base T.D_44 6 Ua:=by
 refine qC T.D_44.F Pu λc nd e Q h=>?_;obtain⟨fs,an,t,a,rfl,F,d,b,hd,h⟩:=h;refine⟨_,(bQ (cK (bP aY cI (cd (Nz T) c (aA (aD 1) (aA (cd (Nw T) c (aA (aD 0) (aA (aD 1) (aA (aD 2) aF)))) aF))) aN))),?_⟩;exact⟨_,gL,_,gL,_,gL,_,gL,fs,an,t,a,gL,F,d,b,hd,t,.say (mF fs t a),uN fs t a,gL,zK F b t d,hd,_,gL,h⟩
def aDb(d:Nat)
  (c:Ft P w base T.D_47 (1+d) (vU d)):Fj P w base T.D_47 (1+d+1) (mS K (vU (d+1))):=by
 refine qC T.D_47.F Px λi nd x Q h=>?_;obtain⟨fs,an,t,rfl,F,o,hk,hd,h⟩:=h;refine⟨_,(aW (iN (tv (cd (hk:=by lia) (NF T) i (aA (aD 0) aF)))
 (bQ (cK (aA8 bI (aA (aD 0) aF) (λh f=>gY bY cZ cX Z3 h f))))
 fM)
 (aW (ss 1 nd (bP aY cI (aD 0) aN))
 (aW (ss 2 nd (fU (aA bI (aA (bP aY cI (aD 1) aN) (aA (bP aY cI (aD 1) aN) (aA (bP aY cI (aD 1) aN) (aA (bP aY cI (aD 0) aN) (aA (cd (hk:=by lia) c i (aA (bP aY cI (aD 0) aN) aF)) (aA (cd (hk:=by lia) c i (aA (bP aY cI (aD 0) aN) aF)) aF)))))))))
 (bQ (cK (mL bI (aA (aD 2) aF) (λh f=>gY bY cZ cX mK h f))))))),?_⟩
 cases t with
 |say a=>
  refine BW (λq b=>⟨_,gL,.say a,gL,b _ gL⟩) ?_;have l:=LA (nW F (.say a) o);refine⟨dO,gL,_,gL,kR (.say a),gL,?_,h⟩;have e:dO.length=1:=by decide +kernel
  rw[e];have:(kR (.say a)).length=2:=rfl;lia
 |ask k n v s y m=>
  have p:(Tr.ask k n v s y m).dep=max y.dep m.dep+1:=rfl;have r:(Tr.ask k n v s y m).kn=y.kn+m.kn+1:=rfl;rw[p]at hd;rw[r]at hk;refine Ô o λb u j g=>?_;refine BX (λq b=>⟨_,gL,.ask k n v s y m,gL,b _ gL⟩) ?_;refine cL (.tuple [.str k,.str n,.str v]) (λq b=>⟨_,gL,_,gL,b⟩) ?_;refine cL (.list ((["ask",n,k,v,s,jY y,jY m]:List â).map aI)) (λq b=>⟨_,gL,_,gL,_,gL,_,gL,_,gL,_,gL,_,gL,_,gL,_,gL,_,gL,fs,an,y,gL,F,j,eH,eH,_,gL,_,gL,fs,an,m,gL,F,g,eH,eH,aB gL,b⟩) ?_;have B:=pN F j;have C:=pN F g;have l:=LA λw hw=>nW F (.ask k n v s y m) ⟨b,u,j,g⟩ w (bM.mpr (.inl (aE _ hw)));refine⟨dO,gL,_,gL,_,gL,?_,?_⟩
  ·have e:dO.length=1:=by decide +kernel
   have z:("ask":â).length=3:=by decide +kernel
   rw[e];simp only[aX,jC,dU,aMb,bD,rH]at l |-
   lia
  ·rw[IE];exact h
def NC:Ft P w base T.D_47 32 So:=by
 have h:∀a:Nat,Ft P w base T.D_47 (1+a) (vU a):=λa=>by
  induction a with
  |zero=>exact F8 wG λc Q h=>ZY h
  |succ a b=>exact aDb T a b
 exact h 31
def Oa:Ft P w base T.D_52 1 Gh:=by
 refine qC T.D_52.F Qc λc nd b Q h=>?_;obtain⟨x,rfl,a,h⟩:=h;refine⟨_,(bQ (cK (yJ (cN K4 SO (aD 0) qS) (LP gL T.c_LACKING) (aD 0)))),?_⟩;rcases a with rfl | ⟨z,d,rfl⟩
 ·exact⟨_,gL,h⟩
 ·exact⟨_,gL,_,gL,h⟩
def Gw:Ft P w base T.D_65 1 Tj:=by
 refine qC T.D_65.F Sb λc nd b Q h=>?_;obtain⟨x,rfl,a,h⟩:=h;refine⟨_,(bQ (cK (yJ (cN U3 ZQ (aD 0) qS) (aD 0) bI))),?_⟩;rcases a with rfl | ⟨z,d,rfl⟩
 ·exact⟨_,gL,h⟩
 ·exact⟨_,gL,_,gL,h⟩
def ZJ:Ft P w base T.D_51 1 Su:=by
 refine qC T.D_51.F Qb λg nd d Q h=>?_;obtain⟨i,rfl,f,h⟩:=h;refine⟨_,(bQ (cK (cY vC (aA (el (fr:=[wy]) (N':=["word"]) (eX (aD 0)) (λb=>⟨(eB (pk 0)),gQ,(yJ (cN fR jN (aD 0) (LP gL T.c_LACKING)) qS (aD 0))⟩)) aF) kH T.b_tuple qH))),?_⟩;show qG (f1 QR) _ _ Q;dsimp only[qG,vJ,DN];refine iR (λR h=>⟨_,gL,_,gL,h⟩) Jo (by rw[aC];lia) (λx q c a=>?_) ?_
 ·refine Â (aS.mp c) λw hw y=>?_;subst y;refine⟨_,gL,?_⟩;show(if decide (w="-")=wx then _ else _);have a:q (ER w):=a;unfold ER at a;by_cases e:w="-"
  ·rw[b7 e]at a;rw[b7 (a9 e)];exact a
  ·rw[a8 e]at a;rw[a8 λz=>e (c6 z)];exact⟨_,gL,a⟩
 ·rw[bJ];exact h
def Gq:Ft P w base T.D_49 1 Sr:=by
 refine qC T.D_49.F Pz λp nd o Q h=>?_;obtain⟨w,rfl,g,h⟩:=h;refine⟨_,(aW (iN (rL (CT (rM (XN SH SH sE sE aN (cB jB (aA (aD 0) aF) cJ T.b_len fV) (TN gL T.c_MOST_FIGURES))) (yX (rM (tv (cB Ey (aA (el (fr:=[wy]) (N':=["sign"]) (eX (aD 0)) (λb=>⟨(eB (pk 0)),gQ,(oX rR P3 (aD 0) (LP gL T.c_FIGURES))⟩)) aF) (BE gL) T.b_all Hg))))))
 (bQ (cK GD))
 fM)
 (bQ (cK (Mf (oX fR jN (aD 0) bI) (CF (Yt (Mg (aD 0) (aA bI aF) (λh m=>gY bY PySem.F.slot_str_startswith PySem.F.type_str_startswith VD h m)))))))),?_⟩
 unfold JC at h;refine iZ (λb=>b=!(decide (1<=w.length)&&decide (w.length<=9)&&(yz w).all id)) (λq a=>?_) (λl=>?_) λk=>?_
 ·refine⟨_,gL,g,?_⟩;have i:decide ((1:Int)<=(w.length:Nat))=decide (1<=w.length):=by rw[k6];lia
  have j:decide (((w.length:Nat):Int)<=9)=decide (w.length<=9):=by rw[k6];lia
  show(if decide ((1:Int)<=(w.length:Nat))=wx then _ else _);rw[i]
  cases d:decide (1<=w.length)with
  |false=>exact a _ (by rw[d];rfl)
  |true=>
   rw[b7 rfl];show(if(!decide (((w.length:Nat):Int)<=9))=wx then q wx else _);rw[j]
   cases f:decide (w.length<=9)with
   |false=>exact a _ (by rw[d,f];rfl)
   |true=>
    rw[a8 cS];dsimp only[Ai,GN,qG,vJ,DN];refine iR (λR h=>⟨_,gL,_,gL,h⟩) Mu (by unfold ID;rw[aC];exact g) (λx q n a=>?_) ⟨yz w,by unfold yz ID;rw[bJ,bJ];rfl,a _ (by rw[d,f];rfl)⟩;refine Â (aS.mp n) λc _ z=>?_;subst z;exact⟨_,gL,a⟩
 ·have:=l.symm;rw[aCc]at this;rw[this]at h;exact h
 ·have:=k.symm;rw[Bool.not_eq_false']at this;rw[this,kQ]at h;refine⟨_,gL,?_⟩;show(if decide (w="0")=wx then Q (.bool wx)else _);by_cases e:w="0"
  ·rw[a9 e]at h |-;exact h
  ·rw[b8 e]at h |-
   exact⟨_,gL,_,gL,h⟩
def Gp:Ft P w base T.D_48 2 Sq:=by
 refine qC T.D_48.F Py λi nd j Q h=>?_;obtain⟨w,r,rfl,g,h⟩:=h;refine⟨_,(aW (iN (cN rR P3 (bP aY cI (aD 0) aN) (A9 gL T.c_SINGLE_WORDS T.t_SINGLE_WORDS))
 (bQ (cK (oX fR jN (cB jB (aA (aD 0) aF) cJ T.b_len fV) aN)))
 fM)
 (aW (iN (cN fR jN (bP aY cI (aD 0) aN) bI)
 (bQ (cK (GE (oX fR jN (cB jB (aA (aD 0) aF) cJ T.b_len fV) aN) (CF (cd (Gq T) i (aA (bP aY cI (aD 0) aN) aF))))))
 fM)
 (aW (iN (cN fR jN (bP aY cI (aD 0) aN) bI)
 (bQ (cK (GE (oX IQ sE (cB jB (aA (aD 0) aF) cJ T.b_len fV) aN) (CF (cd (Gq T) i (aA (bP aY cI (aD 0) aN) aF))))))
 fM)
 (bQ (cK (oX rR P3 (bP aY cI (aD 0) aN) (eV (aA bI (aA bI (aA bI aF)))))))))),?_⟩
 have f:atI ((w::r).map aI) 0=wz (.str w):=L2.eR gL;unfold qR at h;rw[oH,aIi]at h;refine iZ (λb=>b=decide (w∈(["tree","rows","rules","steps"]:List â))) (λq d=>⟨_,gL,_,f,_,gL,d _ gL⟩) (λc=>?_) λa=>?_
 ·rw[b7 (c6 c.symm)]at h;have e:decide (((((w::r).map aI).length:Nat):Int)=1)=decide ((w::r).length=1):=by rw[k6,aC];lia
  rw[<- e]at h;exact⟨_,gL,h⟩
 rw[a8 (i9 a.symm)]at h
 try unfold pW
 dsimp only;refine iZ (λb=>b=decide (w="out")) (λq d=>⟨_,gL,_,f,d _ gL⟩) (λc=>?_) λa=>?_
 ·rw[b7 (c6 c.symm)]at h;refine⟨_,gL,?_⟩;rcases r with _ | ⟨x,_ | ⟨y,r⟩⟩
  ·exact h
  ·exact⟨_,gL,_,gL,x,gL,g x (aM ..),h⟩
  ·exact h
 rw[a8 (i9 a.symm)]at h;dsimp only;refine iZ (λb=>b=decide (w="turn")) (λq d=>⟨_,gL,_,f,d _ gL⟩) (λc=>?_) λa=>?_
 ·rw[b7 (c6 c.symm)]at h;refine⟨_,gL,?_⟩;rcases r with _ | ⟨x,r⟩
  ·exact h
  ·show(if decide (2<=((((w::x::r).map aI).length:Nat):Int))=wx then _ else Q (.bool ww));rw[b7 (by rw[aC];simp;lia)];rw[a9 (show 2<=(w::x::r).length by simp),kQ]at h;exact⟨_,gL,_,L2.eR gL,x,gL,g x (aM ..),h⟩
 rw[a8 (i9 a.symm)]at h;exact⟨_,gL,_,f,gJ,["put","judge","why"],gL,h⟩
def IR:Ft P w base T.D_66 2 Tk:=by
 refine qC T.D_66.F Sc λg nd i Q h=>?_;obtain⟨fs,an,r,rfl,F,a,h⟩:=h;refine⟨_,(bQ (cK (mL bI (aA (cE bE dE (el (fr:=[wy]) (N':=["_law_value"]) (eX (bP aY cI (aD 0) aN)) (λb=>⟨(eB (pk 0)),gQ,(cd (Gw T) g (aA (aD 0) aF))⟩)) (fU (aA (bP aY cI (aD 0) aN) aF))) aF) (λh d=>gY bY cZ cX mK h d)))),?_⟩;refine Í (wZ F a) λw m e hw k=>?_;have j:=(pX F a).2;have l:=mP λx c=>(hw x c).2;refine⟨_,gL,?_⟩;dsimp only[vJ,DN,wq];refine iR (λR h=>⟨_,gL,_,gL,_,gL,h⟩) (λx=>.str (sI x)) eH (λx q c f=>⟨_,gL,x,gL,qF F a.1 x c,f⟩) ?_;refine⟨_,gL,_,gL,gJ,by rw[aC];show _+1<=_;lia,r.1.map sI++[r.2],by rw[cC,bJ];rfl,?_,h⟩;have hb:dO.length=1:=by decide +kernel
 show _+_*dO.length<=_;rw[e,hb];rw[bD]at *;lia
def SI:Ft P w base T.D_50 2 Ss:=by
 refine qC T.D_50.F Qa λb nd c Q h=>?_;obtain⟨a,rfl,f,h⟩:=h;refine⟨_,(bQ (cK (cE bE dE (eV (aA (cd (ZJ T) b (aA (dZ gB mV (aD 0) fG (eL (wJ aN))) aF)) aF)) (cY vC (aA (dZ gB mV (aD 0) (eL (wJ aN)) fG) aF) kH T.b_tuple qH)))),?_⟩;have d:=T3 a wy (wz (-1));have e:=T3 a (wz (-1)) wy;refine⟨_,gL,fY a wy (wz (-1)),by show[fD (fY _ wy (wz (-1)))]=_;rw[(hX ..)],eH,gJ,_,gL,?_⟩;show Am (.tuple [.tuple _]) (.tuple (fY (a.map aI) (wz (-1)) wy)) Q;rw[(hX ..)];exact⟨by grind,h⟩
def Ob:Ft P w base T.D_54 1 Sw:=by
 refine qC T.D_54.F Qe λi nd b Q h=>?_;obtain⟨k,n,v,s,rfl,c,d,f,g,h⟩:=h;refine⟨_,(bQ (cK (mL bI (aA (fU (aA (bP aY cI (aD 0) aN) (aA (bP aY cI (aD 0) aN) (aA (bP aY cI (aD 0) aN) (aA (aD 1) aF))))) aF) (λh a=>gY bY cZ cX mK h a)))),?_⟩;have e:dO.length=1:=by decide +kernel
 refine⟨dO,gL,_,gL,_,gL,_,gL,_,gL,_,gL,_,gL,_,gL,gJ,[n,k,v,s],gL,?_,h⟩;rw[e];show n.length+(k.length+(v.length+(s.length+0)))+4*1<=_;lia
def Gs:Ft P w base T.D_53 2 Sv:=by
 refine qC T.D_53.F Qd λJ nd M Q h=>?_;obtain⟨fs,an,a,rfl,F,o,p,N,h⟩:=h;refine⟨_,(aW (iN (cN fR jN (cB jB (aA (aD 0) aF) cJ T.b_len fV) aN)
 (bQ (cK bI))
 fM)
 (aW (so 1 nd aF)
 (aW (sf (eX (aD 0)) (pU (qP gL (fB (pn 2 nd) (fB (pn 3 nd) nO))))
 (bQ (zB (i:=1) (pv 1) (mL bI (aA (cE bE dE (cE bE dE (fU (aA (cY sY (aA (aD 2) aF) kZ T.b_str rW) aF)) (el (fr:=[wy]) (N':=["entry"]) (eX (bP aY cI (aD 3) aN)) (λb=>⟨(eB (pk 0)),gQ,(cd (Oa T) J (aA (aD 0) aF))⟩))) (fU (aA (bP aY cI (aD 3) aN) aF))) aF) (λh l=>gY bY cZ cX mK h l)) (pb:=λh=>gK (gY cV gT gS nY (pv 1) h)))))
 (rP 1 (bQ (cK (mL bI (aA (aD 1) aF) (λh l=>gY bY cZ cX mK h l)))))))),?_⟩
 show qO _ _ _ [.val (.list (NJ a)),.un,.un,.un];have s:dO.length=1:=by decide +kernel
 have t:(", ":â).length=2:=by decide +kernel
 unfold rQ at h;refine iZ (λb=>b=decide (a=[])) (λq d=>⟨_,gL,d _ ?_⟩) (λB=>?_) λz=>?_
 ·rw[k6,NI];rw[<- pA];lia
 ·rw[b7 (c6 B.symm)]at h;exact h
 rw[a8 (i9 z.symm)]at h
 try unfold pW
 dsimp only;have tl:=zD F o p;refine qY [] gJ (λq d=>d) ?_
 refine pT (ts:=NJ a) (λR h=>⟨_,gL,_,gL,h⟩)
  (λi L=>∃m s3:Sl,L=[.val (.list (NJ a)),.own (((a.take i).map qN).map aI),m,s3]) ⟨_,_,gL⟩ (λi x n g k=>?_) λn k=>?_
 ·refine À k λm s3 Z=>?_;subst Z;unfold NJ at g;rw[aO]at g;refine Â (dB.mp g) λe c Z=>?_;subst Z;have j:=aZ c;have C:=(aJ.mp c).1;have f:=o e.2 (aS.mpr ⟨e,j,gL⟩);have H:=(pX F f).2;have u:a.take (i+1)=a.take i++[e]:=by rw[dD,c];rfl
  refine⟨_,_,gL,?_⟩;have y:=(SQ e.1 (by have:=p e j;lia));refine Í (wZ F f) λw S v hw E=>?_;have r:=mP λx g=>(hw x g).2;refine xD (.str (qN e)) gL (by rw[aC,aC,bH];lia) (λq d=>?_) ⟨_,_,by rw[u,cC,cC];rfl⟩;refine⟨dO,gL,?_⟩;dsimp only[vJ,DN,wq];refine⟨_,gL,y.2,gJ,?_⟩;dsimp only;refine iR (ts:=e.2.1) (λR h=>⟨_,gL,_,gL,_,gL,h⟩) (λx=>.str (sI x)) eH (λx q g d=>⟨_,gL,x,gL,qF F f.1 x g,d⟩) ?_;refine⟨by rw[aC];show 1+_<=_;lia,_,gL,_,gL,gJ,by rw[aR,aC];show 1+_+1<=_;lia,nF (e.1:Nat)::(e.2.1.map sI++[e.2.2]),by rw[aX,cC,bJ];rfl,?_,d⟩;rw[v,s,aX,dU,bD];rw[bD]at *;lia
 ·refine À k λm s3 Z=>?_;subst Z;refine⟨_,gL,?_⟩;rw[NI,eI];have r:=mP tl;rw[aC]at r;exact⟨_,gL,_,gL,a.map qN,gL,by rw[t,aC];lia,h⟩
def aC9(d:Nat)
  (b:Ft P w base T.D_67 (1+d) (vS d)):Fj P w base T.D_67 (1+d+1) (mS K (vS (d+1))):=by
 refine qC T.D_67.F Gf λl nd x Q h=>?_;obtain⟨fs,an,t,rfl,F,g,hd,f,h⟩:=h;refine⟨_,(aW (iN (cN fR jN (bP aY cI (aD 0) aN) bI)
 (bQ (cK (cE bE dE bI (bP aY cI (aD 0) aN))))
 fM)
 (aW (ss 1 Gf.nd (fU (aA bI (aA (bP aY cI (bP aY cI (aD 0) aN) aN) (aA (bP aY cI (bP aY cI (aD 0) aN) aN) (aA (bP aY cI (bP aY cI (aD 0) aN) aN) (aA (bP aY cI (aD 0) aN) aF)))))))
 (bQ (cK (mL bI (aA (cE bE dE (aD 1) (fU (aA (cd (hk:=by lia) b l (aA (bP aY cI (aD 0) aN) aF)) (aA (cd (hk:=by lia) b l (aA (bP aY cI (aD 0) aN) aF)) aF)))) aF) (λh u=>gY bY cZ cX mK h u)))))),?_⟩
 cases t with
 |say a=>
  refine BW (λq c=>⟨_,gL,_,gL,c _ (a9 gL)⟩) ?_;have i:=(rT (F.an.2.1 _ g)).2.2
  have e:("say ":â)++a=jY (.say a):=by
   rw[show("say ":â)="say"++" " by decide +kernel];exact B8 "say" a []
  have r:("say ":â).length=4:=by decide +kernel
  exact⟨_,gL,_,gL,by rw[r];lia,by rw[e];exact h⟩
 |ask k n v s y m=>
  have p:(Tr.ask k n v s y m).dep=max y.dep m.dep+1:=rfl;rw[p]at hd f;have i:=LA λw hw=>nW F (.ask k n v s y m) g w (bM.mpr (.inl (aE _ hw)));refine Ô g λc B o j=>?_;refine BX (λq c=>⟨_,gL,_,gL,c _ (b8 cR)⟩) ?_;refine cL (.list ((["ask",n,k,v,s]:List â).map aI)) (λq c=>⟨_,gL,_,gL,_,gL,_,gL,_,gL,_,gL,_,gL,_,gL,_,gL,_,gL,_,gL,gJ,c⟩) ?_
  have kn:∀{t:Tr},t.dep<=6->t.kn<=64:=λ{t} h=>by
   have:=t.kn_dep;have:2^t.dep<=2^6:=fH cS h;lia
  have H:=pN F o;have J:=pN F j;have C:=kn (t:=y) eH;have E:=kn (t:=m) eH;refine⟨dO,gL,_,gL,_,gL,_,gL,fs,an,y,gL,F,o,eH,eH,_,gL,_,gL,fs,an,m,gL,F,j,eH,eH,gJ,gJ,["ask",n,k,v,s,jY y,jY m],gL,?_,?_⟩
  ·have e:dO.length=1:=by decide +kernel
   have z:("ask":â).length=3:=by decide +kernel
   rw[e];simp only[aX,jC,dU,aMb,bD,rH]at i |-
   lia
  ·rw[IE];exact h
def Gx:Ft P w base T.D_67 8 Tl:=by
 have h:∀a:Nat,Ft P w base T.D_67 (1+a) (vS a):=λa=>by
  induction a with
  |zero=>exact F8 wG λc Q h=>ZW h
  |succ a b=>exact aC9 T a b
 exact h 7
def Gy:Ft P w base T.D_68 2 Tn:=by
 refine qC T.D_68.F Se λhr nd ds Q h=>?_;obtain⟨fs,an,t,b,rfl,F,ht,u,hd,h⟩:=h;refine⟨_,(aW (so 3 nd aF)
 (aW (EY (cN fR jN (bP aY cI (aD 1) aN) bI)
 (aW (ss 4 nd (cd (ZH T) hr (aA (aD 0) (aA (aD 1) (aA (aD 2) aF)))))
 (aW (zB (i:=3) (pv 3) (mL bI (aA (fU (aA (bP aY cI (bP aY cI (aD 1) aN) aN) (aA (bP aY cI (bP aY cI (aD 1) aN) aN) (aA (bP aY cI (bP aY cI (aD 1) aN) aN) (aA (aD 4) aF))))) aF) (λh B=>gY bY cZ cX mK h B)) (pb:=λh=>gK (gY cV gT gS nY (pv 3) h)))
 (bQ (ss 1 nd (bP aY cI (aD 1) (cE bE dE aN (cY EM (aA (oX fR jN (aD 4) bI) aF) JT T.b_int CM))))))) (λu hb=>FD r8 u hb))
 (rP 3 (bQ (cK (mL bI (aA (cE bE dE (aD 3) (fU (aA (bP aY cI (aD 1) aN) aF))) aF) (λh B=>gY bY cZ cX mK h B))))))),?_⟩
 show qO _ _ _ [.val (gM fs an),.val (jX t),.val (.tuple b),.un,.un];have J:dO.length=1:=by decide +kernel
 have N:(", ":â).length=2:=by decide +kernel
 refine qY [] gJ (λq d=>d) ?_;refine BV (λn σ=>∃(p:Tr)(done:List â)(x:Sl),σ=[.val (gM fs an),.val (jX p),.val (.tuple b),.own (done.map aI),x]/\n=p.dep/\oF fs an p/\done++(lL fs p b).map nB=(lL fs t b).map nB/\mF fs p b=mF fs t b/\done.length+p.dep<=4/\∀z∈done,z.length<=40) t.dep ⟨t,[],_,gL,gL,ht,gL,gL,by show 0+t.dep<=4;lia,λz o=>by cases o⟩ λn v4 W=>?_;refine Ė W λp done x Z Y C g l X j=>?_;subst Z Y
 cases p with
 |say a=>
  refine⟨ww,λq d=>⟨_,gL,_,gL,by show q (decide _);rw[b8 cR];exact d⟩,?_⟩;show(if ww=wx then _ else _);rw[a8 cS];have S:a=mF fs t b:=l;have e:lL fs (.say a) b=[]:=rfl;rw[e,jC,cM]at g;have r:=(rT (F.an.2.1 _ C)).2.2;have sl:=mP j;refine⟨_,gL,", ",gL,_,gL,_,gL,_,gL,gJ,by rw[aC];show _+1<=_;lia,done++[a],by rw[cC];rfl,?_,?_⟩
  ·rw[N,cC,aF3,aR];show _+(a.length+0)+(_+1)*2<=_;lia
  ·unfold G5 at h;rw[<- g,<- S]at h;exact h
 |ask k n v s y m=>
  refine⟨wx,λq d=>⟨_,gL,_,gL,by show q (decide _);rw[a9 rfl];exact d⟩,?_⟩;show(if wx=wx then _ else _);rw[b7 rfl];have r:∀z∈([n,k,v,s]:List â),z.length<=8:=λz o=>(rT (nW F (.ask k n v s y m) C z (bM.mpr (.inl (aE _ o))))).2.2;refine Ô C λd L hy hm=>?_;have R:(Tr.ask k n v s y m).dep=max y.dep m.dep+1:=rfl;rw[R]at X |-
  have n8:=r n gC;have k8:=r k gC;have v8:=r v gC;have sd:=D3 F d L u;have s8:(eD fs k n v s b).length<=8:=by rcases sd with e | e<;>rw[e]<;>decide +kernel
  refine cL (.str (eD fs k n v s b)) (λq E=>⟨_,gL,_,gL,_,gL,fs,an,k,n,v,s,[jX y,jX m],b,gL,F,d,L,u,E⟩) ?_;refine R0 (ts:=done.map aI) (.str (Txt.join dO [n,k,v,eD fs k n v s b])) gL (by rw[aC];lia) (λq d=>⟨dO,gL,_,gL,_,gL,_,gL,_,gL,_,gL,_,gL,_,gL,_,gL,_,gL,_,gL,gJ,[n,k,v,eD fs k n v s b],gL,?_,d⟩) ?_
  ·rw[J];show n.length+(k.length+(v.length+((eD fs k n v s b).length+0)))+4*1<=_;lia
  have H:=yG dO [n,k,v,eD fs k n v s b];rw[J]at H;have H:(Txt.join dO [n,k,v,eD fs k n v s b]).length<=n.length+(k.length+(v.length+((eD fs k n v s b).length+0)))+4*1:=H;have fin:∀f:Tr,(lL fs (.ask k n v s y m) b).map nB=Txt.join dO [n,k,v,eD fs k n v s b]::(lL fs f b).map nB->mF fs (.ask k n v s y m) b=mF fs f b->oF fs an f->f.dep<=max y.dep m.dep->∃M,M<max y.dep m.dep+1/\∃(p:Tr)(c:List â)(x:Sl),([.val (gM fs an),.val (jX f),.val (.tuple b),.own (done.map aI++[.str (Txt.join dO [n,k,v,eD fs k n v s b])]),.val (.str (eD fs k n v s b))]:List Sl)=[.val (gM fs an),.val (jX p),.val (.tuple b),.own (c.map aI),x]/\M=p.dep/\oF fs an p/\c++(lL fs p b).map nB=(lL fs t b).map nB/\mF fs p b=mF fs t b/\c.length+p.dep<=4/\∀z∈c,z.length<=40:=λf w1 w2 w3 w4=>⟨f.dep,eH,f,done++[Txt.join dO [n,k,v,eD fs k n v s b]],_,by rw[cC];rfl,gL,w3,by rw[<- g,w1,fC];rfl,by rw[<- w2];exact l,by rw[aR];show _+1+_<=4;lia,λz o=>(bM.mp o).elim (j z) λz'=>by rw[aU.mp z'];lia⟩;rcases sd with e | e
  ·refine sP (jX y) (λq d=>⟨_,gL,_,gL,?_⟩) ?_
   ·show Aa (jX (.ask k n v s y m)) (.int (3+if decide (eD fs k n v s b="no")=wx then 1 else 0)) q;rw[e,a8 cR];exact⟨_,gL,d⟩
   ·refine fin y ?_ ?_ hy (sB ..)
    ·show nB _::(if eD fs k n v s b="yes" then lL fs y b else lL fs m b).map nB=_;rw[b7 e];rfl
    ·exact b7 e
  ·have ne:eD fs k n v s b≠"yes":=by rw[e];decide +kernel
   refine sP (jX m) (λq d=>⟨_,gL,_,gL,?_⟩) ?_
   ·show Aa (jX (.ask k n v s y m)) (.int (3+if decide (eD fs k n v s b="no")=wx then 1 else 0)) q;rw[e,b7 cR];exact⟨_,gL,d⟩
   ·refine fin m ?_ ?_ hm (qU ..)
    ·show nB _::(if eD fs k n v s b="yes" then lL fs y b else lL fs m b).map nB=_;rw[a8 ne];rfl
    ·exact a8 ne
def ZF:Ft P w base T.D_75 3 Ut:=by
 refine qC T.D_75.F Sm λm nd J Q h=>?_;obtain⟨fs,an,a,f,L,dp,fw,rfl,w,h⟩:=h;refine⟨_,(aW (mQ (i:=1) (fr:=[wy,wz 0]) (N':=["_law_number","_law_state"]) (eX (A8 (kN m.u1 (aD 0) iU) (pc:=λh=>mR (vB gL) gL T.b_sorted tW h))) (λb=>⟨(eB (pk 0)),gQ,(cE bE dE (cE bE dE (cY sY (aA (aD 0) aF) kZ T.b_str rW) bI) (cd (IR T) m (aA (LO m.u1 (kN m.u1 (aD 1) iU) (aD 0)) aF)))⟩) (λB u=>kW (show pZ _ (aV (top 109)) ["_law_state","_law_texts"] ["_law_number","_law_state"] [wy,wz 0]=wx from by decide +kernel) nd gL (by first | exact g4 gL | exact f7 gL) gL B u gL))
 (bQ (cK (mL bI (aA (cE bE dE (aD 1) (dZ gB mV (fU (aA bI aF)) fG (eL (cY EM (aA (oX (FI m) uS (aD 1) (fU aF)) aF) JT T.b_int CM)))) aF) (λh v=>gY bY cZ cX mK h v))))),?_⟩
 have F:=w.F;have few:=w.few;have f50:=w.f50;have j:∀e∈a,e.1<=60:=λe d=>by have:=w.lt e d;lia
 have o:(" ":â).length=1:=by decide +kernel
 have s:(", ":â).length=2:=by decide +kernel
 refine cL (.list ((a.map qN).map aI)) (λq n=>Eh gL w.ris eH (λe=>.str (qN e)) (λe d q n=>?_) (by rw[bJ]at n;exact n)) ?_
 ·have g:=w.ok e.2 (aS.mpr ⟨e,d,gL⟩);have p:=nk (k:=e.1) (.inl (by have:=j e d;lia));have N:=(pX F g).1;have M:(c9 (t6 ((e.1:Nat):Int))).length<=9:=p.asc.len;have t:c9 (t6 ((e.1:Nat):Int))++" "++E8 e.2=qN e:=wX (sU F g).2.2;exact⟨_,gL,p.lg,by rw[o];lia,_,gL,_,_,_,_,_,gL,gL,_,gL,mE a,(e.1:Nat),eJ e.2,gL,gL,uX (LM (KR w.ris) d),fs,an,e.2,gL,F,g,by rw[oP,o];lia,by rw[t];exact n⟩
 have C:=mP (zD F w.ok j);rw[aC]at C
 have r:dW (.list ((a.map qN).map aI)) (.list [])=decide (a=[]):=by
  rw[Yr];cases a<;>rfl
 have lay:ZP (.list ((a.map qN).map aI)) (.list []):=⟨L7 λx E=>?_,gL,bK (vO _ _) gJ⟩
 ·refine⟨", ",gL,_,gL,gJ,_,gL,gJ,lay,?_⟩;rw[r];unfold rQ at h;by_cases z:a=[]
  ·rw[a9 z];subst z;rw[b7 rfl]at h;exact⟨gJ,["none"],gL,cR,h⟩
  ·rw[a8 z]at h;rw[b8 z];refine⟨by rw[aC,aC];show _+0<=_;lia,a.map qN,cM _,by rw[s,aC];lia,h⟩
 ·refine Â (aS.mp E) λz H x=>?_;subst x;refine Â (aS.mp H) λe d x=>?_;subst x
  exact(yP.cd ⟨aP _,λc l=>by
   rcases FZ l with l | ⟨y,hy,l⟩
   ·exact Va c l
   ·rcases aQ.mp hy with rfl | hy
    ·exact(nk (.inl (by have:=j e d;lia))).asc.asc c l
    ·exact aDw F (w.ok e.2 (aS.mpr ⟨e,d,gL⟩)) hy c l⟩).lay
def Gz:Ft P w base T.D_74 16 Us:=by
 refine qC T.D_74.F Sk λa nd o Q h=>?_;obtain⟨fs,an,g,f,d,p,m,rfl,w,hd,n,h⟩:=h;refine⟨_,(aW (mQ (i:=2) (fr:=[wy,wz 1]) (N':=["_law_number","_law_state"]) (eX (A8 (kN a.u1 (aD 1) iU) (pc:=λh=>mR (vB gL) gL T.b_sorted tW h))) (λb=>⟨(eB (pk 0)),gQ,(LO a.u1 (kN a.u1 (aD 1) iU) (aD 0))⟩) (λl j=>kW (show pZ _ (aV (top 108)) ["_law_form_here","_law_state","_law_rows"] ["_law_number","_law_state"] [wy,wz 1]=wx from by rfl) nd gL (by first | exact g4 gL | exact f7 gL) gL l j gL))
 (bQ (cK (cd (Of T) a (aA (aD 0) (aA (aD 2) (aA (kN a.u1 (aD 1) iU) (aA (kN a.u1 (aD 1) iU) aF)))))))),?_⟩
 have few:=w.few;have f50:=w.f50;refine cL (.list ((g.map (·.2)).map eJ)) (λq c=>Eh gL w.ris eH (λe=>eJ e.2) (λe k q c=>⟨_,gL,_,_,_,_,_,gL,gL,_,gL,mE g,(e.1:Nat),eJ e.2,gL,gL,uX (LM (KR w.ris) k),c⟩) (by rw[bJ]at c;exact c)) ?_;exact⟨_,gL,_,gL,_,gL,_,_,_,_,_,gL,gL,_,gL,_,_,_,_,_,gL,gL,fs,an,g.map (·.2),d,m,gL,w.F,w.ok,by rw[aC];lia,eH,n,h⟩
def Og:Ft P w base T.D_70 3 Tq:=by
 refine qC T.D_70.F Sg λj nd R Q h=>?_;obtain⟨ns,fs,an,r,rfl,p,F,b,h⟩:=h;refine⟨_,(aW (ss 3 nd (wI (cd (IR T) j (aA (aD 2) aF)) (aA bI aF) (λh n=>gY bY lQ lP wD h n)))
 (aW (ss 4 nd (cd (jI T) j (aA (aD 0) (aA (cB jB (aA (aD 3) aF) cJ T.b_len fV) aF))))
 (aW (AG (i:=5) nd gL (by first | exact g4 gL | exact f7 gL) (bP aY cI (fU (aA bI (aA bI (aA bI (aA bI (aA bI (aA bI aF))))))) (cd (jI T) j (aA (aD 0) (aA aN aF)))))
 (aW (AG (i:=6) nd gL (by first | exact g4 gL | exact f7 gL) (fU (aA (dZ gB mV (aD 3) fG (eL (wJ aN))) (aA (cE bE dE (aD 3) (fU (aA (bP aY cI (aD 2) aN) aF))) (aA (cE bE dE (cE bE dE (dZ gB mV (aD 3) fG (eL (aD 4))) (fU (aA (aD 5) aF))) (dZ gB mV (aD 3) (eL (cE bE dE (aD 4) aN)) fG)) (aA (dZ gB mV (aD 3) (eL aN) fG) (aA (fU aF) (aA (cE bE dE (dZ gB mV (aD 3) fG (eL (wJ aN))) (fU (aA bI aF))) aF))))))))
 (bQ (cK (mL bI (aA (bP aY cI (aD 6) (cd (jI T) j (aA (aD 0) (aA aN aF)))) aF) (λh n=>gY bY cZ cX mK h n)))))))),?_⟩
 refine ñ (sU F b) λu rl J=>?_;have tl:=(pX F b).1
 have B:Txt.split (E8 r) dO=jH r:=by
  cases e:jH r with
  |nil=>lia
  |cons w N=>
   unfold E8;rw[show r.1.map sI++[r.2]=w::N from e];exact zC 32 cS _ _ λx c=>(u x (by lia)).1
 have W:(jH r).length=r.1.length+1:=by unfold jH;rw[aR,aC];rfl
 show qO _ _ _ [.val (jP ns),.val (gM fs an),.val (eJ r),.un,.un,.un,.un];refine cL (.list ((jH r).map aI)) (λq a=>⟨_,gL,fs,an,r,gL,F,b,_,gL,cR,eH,?_⟩) ?_
 ·show q (.list ((Txt.split (E8 r) dO).map aI));lia
 have X:(((jH r).map aI).length:Nat)=(jH r).length:=aC ..;refine dP (λd=>∃k:Nat,k<(jH r).length/\d=.int (k:Nat)) (λq a=>⟨_,gL,_,gL,ns,(((jH r).map aI).length:Int),gL,p,eH,eH,λi f g=>a _ ⟨i.toNat,eH,by congr 1;lia⟩⟩) ?_;rintro _ ⟨k,E,rfl⟩;refine dP (λd=>∃o∈K9,d=.str o) (λq a=>⟨gJ,_,gL,ns,6,gL,p,cS,cS,λi f g=>?_⟩) ?_
 ·refine Â (Be (l:=K9) f g) λx s c=>?_;exact⟨_,c,a _ ⟨x,s,gL⟩⟩
 rintro _ ⟨o,H,rfl⟩;have ct:fY ((jH r).map aI) wy (wz (-1))=(r.1.map sI).map aI:=by rw[hX];unfold jH;rw[BD]
 have c1:fY ((jH r).map aI) wy (wz (k:Int))=((jH r).take k).map aI:=by rw[hX,pQ]
 have v:fY ((jH r).map aI) (wz ((k:Int)+1)) wy=((jH r).drop (k+1)).map aI:=by rw[hX];congr 1;exact sX (jH r) (k+1)
 have y:fY ((jH r).map aI) (wz 1) wy=((jH r).drop 1).map aI:=by rw[hX];congr 1;exact sX (jH r) 1
 refine cL (.list ((xr (r.1.map sI) r.2 o k).map λL=>.list (L.map aI))) (λq a=>?_) ?_
 ·have t:q (.list [.list (fY ((jH r).map aI) wy (wz (-1))),.list ((jH r).map aI++[.str r.2]),.list (fY ((jH r).map aI) wy (wz (k:Int))++[.str o]++fY ((jH r).map aI) (wz ((k:Int)+1)) wy),.list (fY ((jH r).map aI) (wz 1) wy),.list [],.list (fY ((jH r).map aI) wy (wz (-1))++[.str "-"])]):=by
   rw[ct,c1,v,y];unfold xr at a;unfold jH;simp only[aX,jC,cC]at a |-
   exact a
  exact⟨_,gL,_,gL,_,gL,_,gL,gJ,by grind,_,gL,_,gL,_,gL,gJ,by grind,_,gL,_,gL,by grind,_,gL,gJ,_,gL,gJ,by grind,gJ,t⟩
 refine⟨dO,gL,_,gL,_,gL,ns,6,gL,p,cS,cS,λi f g=>?_⟩;refine Å (wN (xs:=(xr (r.1.map sI) r.2 o k).map λL=>fD (L.map aI)) f g) λx s c _=>?_;refine Â (aS.mp s) λL C Z=>?_;subst Z;refine Ã ((V7 F b H E) L C) λM m=>?_;have z:dO.length=1:=rfl
 have sl:=mP λw hw=>(m.ok w hw).2.len;have S:=m.len;exact⟨_,c,L,gL,by rw[z];lia,h L M m⟩
def Pi:Ft P w base T.D_71 3 Ts:=by
 refine qC T.D_71.F Sh λg nd ds Q h=>?_;obtain⟨ns,fs,an,r,rfl,m,F,a,h⟩:=h;refine⟨_,(aW (ss 2 nd (dZ gB mV (wI (cd (IR T) g (aA (aD 1) aF)) (aA bI aF) (λh t=>gY bY lQ lP wD h t)) fG (eL (wJ aN))))
 (aW (ss 3 nd (cd (jI T) g (aA (aD 0) (aA (cB jB (aA (aD 2) aF) cJ T.b_len fV) aF))))
 (aW (AG (i:=4) nd gL (by first | exact g4 gL | exact f7 gL) (bP aY cI (fU (aA bI (aA bI (aA bI (aA bI (aA bI (aA bI aF))))))) (cd (jI T) g (aA (aD 0) (aA aN aF)))))
 (aW (AG (i:=5) nd gL (by first | exact g4 gL | exact f7 gL) (fU (aA (dZ gB mV (aD 2) fG (eL (wJ aN))) (aA (cE bE dE (aD 2) (fU (aA bI aF))) (aA (cE bE dE (cE bE dE (dZ gB mV (aD 2) fG (eL (aD 3))) (fU (aA (aD 4) aF))) (dZ gB mV (aD 2) (eL (cE bE dE (aD 3) aN)) fG)) (aA (cE bE dE (aD 2) (fU (aA (bP aY cI (aD 1) aN) aF))) (aA (fU aF) aF)))))))
 (bQ (cK (mL bI (aA (cE bE dE (fU (aA (bP aY cI (fU (aA bI (aA bI aF))) (cd (jI T) g (aA (aD 0) (aA aN aF)))) aF)) (bP aY cI (aD 5) (cd (jI T) g (aA (aD 0) (aA aN aF))))) aF) (λh t=>gY bY cZ cX mK h t)))))))),?_⟩
 have n1:=F.n1;refine ñ (sU F a) λE rl rn=>?_;have tl:=(pX F a).1
 have R:Txt.split (E8 r) dO=jH r:=by
  cases e:jH r with
  |nil=>lia
  |cons w ws=>
   unfold E8;rw[show r.1.map sI++[r.2]=w::ws from e];exact zC 32 cS _ _ λx j=>(E x (by lia)).1
 have ll:(jH r).length=r.1.length+1:=by unfold jH;rw[aR,aC];rfl
 have cl:=(mT a.1).1;show qO _ _ _ [.val (jP ns),.val (eJ r),.un,.un,.un,.un];have ct:fY ((jH r).map aI) wy (wz (-1))=(r.1.map sI).map aI:=by rw[hX];unfold jH;rw[BD]
 have ul:(r.1.map sI).length=r.1.length:=aC ..;refine cL (.list ((r.1.map sI).map aI)) (λq b=>⟨_,gL,fs,an,r,gL,F,a,_,gL,cR,eH,?_⟩) ?_
 ·show q (.list (fY ((Txt.split (E8 r) dO).map aI) wy (wz (-1))));lia
 have J:∀{o:â}{k:Nat},o∈K9->k<(r.1.map sI).length->∀v∈V8 (r.1.map sI) r.2 o k,wL fs v=ww/\v.length<=9/\∀w∈v,32∉w.cps.toList/\yP 9 w:=λc S=>aBu F a c S
 generalize r.1.map sI=u at *
 have lm:((u.map aI).length:Nat)=u.length:=aC ..;refine dP (λd=>∃k:Nat,k<u.length/\d=.int (k:Nat)) (λq b=>⟨_,gL,_,gL,ns,((u.map aI).length:Int),gL,m,eH,eH,λi f c=>b _ ⟨i.toNat,eH,by congr 1;lia⟩⟩) ?_;rintro _ ⟨k,X,rfl⟩;refine dP (λd=>∃o∈K9,d=.str o) (λq b=>⟨gJ,_,gL,ns,6,gL,m,cS,cS,λi f c=>?_⟩) ?_
 ·refine Â (Be (l:=K9) f c) λx p j=>?_;exact⟨_,j,b _ ⟨x,p,gL⟩⟩
 rintro _ ⟨o,ho,rfl⟩;dsimp only[DE];have s:=J ho X
 have M:fY (u.map aI) wy (wz (-1))=u.dropLast.map aI:=by
  rw[hX];congr 1;rcases xH u with rfl | ⟨v,w,rfl⟩
  ·rfl
  ·rw[BD,List.dropLast_concat]
 have c1:fY (u.map aI) wy (wz (k:Int))=(u.take k).map aI:=by rw[hX,pQ]
 have H:fY (u.map aI) (wz ((k:Int)+1)) wy=(u.drop (k+1)).map aI:=by rw[hX];congr 1;exact sX u (k+1)
 refine cL (.list ((V8 u r.2 o k).map λL=>.list (L.map aI))) (λq b=>?_) ?_
 ·have B:q (.list [.list (fY (u.map aI) wy (wz (-1))),.list (u.map aI++[.str "-"]),.list (fY (u.map aI) wy (wz (k:Int))++[.str o]++fY (u.map aI) (wz ((k:Int)+1)) wy),.list (u.map aI++[.str r.2]),.list []]):=by
   rw[M,c1,H];unfold V8 at b;simp only[aX,jC,cC]at b |-
   exact b
  exact⟨_,gL,_,gL,gJ,by grind,_,gL,_,gL,_,gL,gJ,by grind,_,gL,_,gL,by grind,_,gL,_,gL,_,gL,gJ,by grind,gJ,gJ,B⟩
 have hw:∀w∈(["judge","why"]:List â),w∈(["put","out","turn","judge","why","tree","rows"]:List â)/\(w="judge"\/w="why"):=by decide +kernel
 refine⟨dO,gL,gJ,_,gL,ns,2,gL,m,cS,cS,λi f c=>?_⟩;refine Â (Be (l:=["judge","why"]) f c) λw p j=>?_;refine⟨_,j,gJ,_,gL,_,gL,ns,5,gL,m,cS,cS,λi f c=>?_⟩;refine Å (wN (xs:=(V8 u r.2 o k).map λL=>fD (L.map aI)) f c) λx z C _=>?_;refine Â (aS.mp z) λv hv Z=>?_;subst Z;refine ñ (s v hv) λv1 v2 v3=>?_;have W:=Wd.of (hw w p).1 v2 v3;have N:dO.length=1:=rfl
 have sl:=mP (n:=9) λy hy=>(W.ok y hy).2.len;have l5:=W.len;exact⟨_,C,by grind,w::v,gL,by rw[N];lia,h w v (hw w p).2 v1 W⟩
def Pj:Ft P w base T.D_72 4 Uq:=by
 refine qC T.D_72.F Si λc nd ds Q h=>?_;obtain⟨ns,fs,an,g,f,dp,fw,rfl,s,w,f50,h⟩:=h;refine⟨_,(aW (ss 3 nd (cd (Gv T) c (aA (aD 0) (aA (aD 1) aF))))
 (aW (ss 4 nd (Ve (cE bE dE bI (cd (Og T) c (aA (aD 0) (aA (aD 1) (aA (aD 3) aF))))) (aA bI aF) (λh ha=>gY bY PySem.F.slot_str_rstrip PySem.F.type_str_rstrip Wc h ha)))
 (aW (ss 5 nd (A8 (kN c.u1 (aD 2) iU) (pc:=λh=>mR (vB gL) gL T.b_sorted tW h)))
 (aW (ss 6 nd (cE bE dE (el (fr:=[wy,wz 2]) (N':=["_law_number","_law_state"]) (tS (aA (cE bE dE (kN c.u1 (aD 2) iU) aN) aF) (λh=>rE gL T.b_range h)) (λb=>⟨(eB (pk 0)),(F4 (aCv c.u1 (aD 0) (kN c.u1 (aD 1) iU))),(aD 0)⟩)) (fU (aA aN aF))))
 (aW (ss 7 nd (bP aY cI (aD 6) (cd (jI T) c (aA (aD 0) (aA (cB jB (aA (aD 6) aF) cJ T.b_len fV) aF)))))
 (aW (ss 8 nd (cd (jI T) c (aA (aD 0) (aA aN aF))))
 (aW (iN (cN fR jN (aD 8) aN)
 (bQ (cK (eV (aA (cE bE dE bI (aD 4)) (aA bI aF)))))
 fM)
 (aW (iN (cN fR jN (aD 8) aN)
 (bQ (cK (eV (aA (cd (Pi T) c (aA (aD 0) (aA (aD 3) aF))) (aA bI aF)))))
 fM)
 (aW (iN (rL (vR (cN fR jN (aD 8) aN) (sL (cN (PZ c) uS (aD 5) (fU aF)))))
 (bQ (cK (eV (aA (cE bE dE (cE bE dE bI (cY sY (aA (bP aY cI (aD 5) (cd (jI T) c (aA (aD 0) (aA (cB jB (aA (aD 5) aF) cJ T.b_len fV) aF)))) aF) kZ T.b_str rW)) (aD 4)) (aA bI aF)))))
 fM)
 (aW (iN (cN fR jN (aD 8) aN)
 (bQ (cK (eV (aA (cE bE dE (cE bE dE bI (cY sY (aA (aD 7) aF) kZ T.b_str rW)) (aD 4)) (aA bI aF)))))
 fM)
 (aW (iN (cN fR jN (aD 8) aN)
 (bQ (cK (eV (aA (cE bE dE (cE bE dE (cE bE dE bI (cY sY (aA (aD 7) aF) kZ T.b_str rW)) bI) (cd (IR T) c (aA (aD 3) aF))) (aA bI aF)))))
 fM)
 (bQ (cK (eV (aA (cE bE dE bI (cY sY (aA (aD 7) aF) kZ T.b_str rW)) (aA bI aF)))))))))))))))),?_⟩
 refine ñ w.len λui S uk=>?_;refine Ä w.eq λoE eE=>?_;have F:=w.F;have l:(" ":â).length=1/\("put":â).length=3/\("turn ":â).length=5/\("out ":â).length=4:=by decide +kernel
 show qO _ _ _ [.val (jP ns),.val (gM fs an),.val (WO (mE g) (f:Nat) dp fw),.un,.un,.un,.un,.un,.un];refine dP (λd=>∃r:Rw,kJ fs an r/\d=eJ r) (λq a=>⟨_,gL,_,gL,ns,fs,an,gL,s,F,λr c=>a _ ⟨r,c,gL⟩⟩) ?_;rintro _ ⟨r,c,rfl⟩;refine dP (λd=>∃M,(M4 fs an M=ww/\M.length<=5/\∀w∈M,32∉w.cps.toList/\yP 9 w)/\d=.str (FF M)) (λq a=>⟨_,gL,_,gL,_,gL,ns,fs,an,r,gL,s,F,c,λL M H=>?_⟩) ?_
 ·refine ñ H.tl λt1 t2 t3=>?_;refine⟨by rw[l.1];lia,_,gL,by rw[oP,l.1];lia,?_⟩;show q (.str (Txt.rstripChars (" "++tx L) dO));rw[H.strip];exact a _ ⟨M,⟨H.no,t2,t3⟩,gL⟩
 rintro _ ⟨M,⟨mn,W,C⟩,rfl⟩;have ml:=aD0 W C;refine cL (.list (MU g)) (λq a=>⟨_,gL,_,_,_,_,_,gL,gL,mE g,gL,S,λus n t=>by rw[Gm n t w.ris];exact a⟩) ?_;refine cL (.list (((fA (f+2)).filter (C5 g)).map id++[.int 999999999])) (λq a=>?_) ?_
 ·refine AX (λR h=>⟨_,gL,_,_,_,_,_,gL,gL,((f:Nat):Int)+2,gL,eH,eH,by rw[show(((f:Nat):Int)+2).toNat=f+2 by lia];exact h⟩) (C5 g) id (by rw[kG];lia) (λx q hx a=>?_) (λx q hx a=>⟨_,gL,a⟩) ?_
  ·refine Ã (dG hx) λj N=>?_;refine Ä (uW N) λ_ Z=>?_;subst Z;exact⟨_,gL,_,gL,_,_,_,_,_,gL,gL,mE g,(j:Nat),gL,gL,a⟩
  ·exact⟨gJ,by rw[aC];have:=cH (C5 g) (fA (f+2));rw[kG]at this;show _+1<=_;lia,a⟩
 have u:∀x∈((fA (f+2)).filter (C5 g)).map id++[.int 999999999],∃k:Nat,qZ k g=wy/\Nk k/\x=.int (k:Nat):=λx hx=>by
  rcases bM.mp hx with hx | hx
  ·rw[yT]at hx;refine Ä (cW.mp hx) λn t=>?_;refine Ã (dG n) λj N=>?_;refine Ä (uW N) λjl Z=>?_;subst Z;exact⟨j,TD (Yv t),nk (.inl eH),gL⟩
  ·rw[aU.mp hx];exact⟨999999999,TD λe he=>by have:=w.lt e he;lia,nk (.inr gL),gL⟩
 have J:0<(((fA (f+2)).filter (C5 g)).map id++[.int 999999999]:List D).length/\(((fA (f+2)).filter (C5 g)).map id++[.int 999999999]:List D).length<=100:=by
  have:=cH (C5 g) (fA (f+2));rw[kG]at this;rw[aR,aC];show 0<_+1/\_+1<=100;lia
 generalize (((fA (f+2)).filter (C5 g)).map id++[.int 999999999]:List D)=gone at u J
 refine dP (λd=>∃k:Nat,qZ k g=wy/\Nk k/\d=.int (k:Nat)) (λq a=>⟨_,gL,_,gL,_,gL,ns,(gone.length:Int),gL,s,eH,eH,λi y n=>?_⟩) ?_
 ·refine Å (wN y n) λx hm hx _=>?_;exact⟨x,hx,a x (u x hm)⟩
 rintro _ ⟨o,E,m,rfl⟩;refine dP (λd=>∃i:Int,d=.int i) (λq a=>⟨_,gL,ns,6,gL,s,cS,cS,λi y n=>a _ ⟨i,gL⟩⟩) ?_;rintro _ ⟨p,rfl⟩
 have wM:∀{k:Nat},Nk k->∀{V:List â},V.length<=5->(∀w∈V,32∉w.cps.toList/\yP 9 w)->Wd (("turn":â)::nF (k:Nat)::V):=λ{k} nk {V} v5 vo=>Wd.of cR (by rw[bD];lia) λx hx=>by
  rcases aQ.mp hx with rfl | hx
  ·exact⟨nk.bl,nk.asc⟩
  ·exact vo x hx
 have t5:("turn ":â)="turn"++" ":=by decide +kernel
 have X:∀(k:Nat)(V:List â),("turn ":â)++c9 (t6 ((k:Nat):Int))++FF V=tx (("turn":â)::nF (k:Nat)::V):=λk V=>by rw[t5];exact aCu "turn" (nF (k:Nat)) V
 refine iZ (λb=>b=decide (p=0)) (λq a=>⟨_,gL,a _ gL⟩) (λ_=>?_) λ_=>?_
 ·refine⟨_,gL,by rw[l.2.1];lia,gJ,?_⟩;rw[Y0];exact h _ wx (.inl (.inl ⟨M,gL,mn,gL⟩)) (Wd.of cR eH C)
 try unfold pW
 try dsimp only
 refine iZ (λb=>b=decide (p=1)) (λq a=>⟨_,gL,a _ gL⟩) (λ_=>?_) λ_=>?_
 ·exact⟨_,gL,_,gL,ns,fs,an,r,gL,s,F,c,λw v n t h3=>⟨gJ,h _ wx (.inr ⟨w,v,n,gL,t,gL⟩) h3⟩⟩
 try dsimp only
 refine iZ (λb=>b=(decide (p=2)&&!decide (g=[]))) (λq a=>⟨_,gL,?_⟩) (λhT=>?_) λ_=>?_
 ·show(if decide (p=2)=wx then _ else q ww);by_cases z:p=2
  ·rw[a9 z]at a |-
   rw[b7 rfl];refine⟨_,gL,gJ,oE,?_⟩;show q (!dW (.list (MU g)) (.list []));rw[eE];exact a _ gL
  ·rw[b8 z]at a |-
   exact a _ gL
 ·have hn:g≠[]:=by
   have:=hT.symm;rw[dH,aCc,j5]at this;exact this.2
  have mx:=nT.mpr hn;refine⟨_,gL,_,gL,_,gL,ns,((MU g).length:Int),gL,s,eH,eH,λi y n=>?_⟩;refine Í (w.pick y n) λk r0 hk hg tf=>?_;have B:Nk k:=nk (.inl (by have:=w.lt _ (F7 hg);dsimp only at this;lia));have k9:(c9 (t6 ((k:Nat):Int))).length<=9:=B.asc.len;refine⟨_,hk,B.lg,by rw[l.2.2.1];lia,_,gL,by rw[oP,l.2.2.1];lia,gJ,?_⟩;rw[X];exact h _ wx (.inl (.inr (.inl ⟨k,M,r0,hg,B,gL,mn,gL⟩))) (wM B W C)
 try dsimp only
 have g9:(c9 (t6 ((o:Nat):Int))).length<=9:=m.asc.len;refine iZ (λb=>b=decide (p=3)) (λq a=>⟨_,gL,a _ gL⟩) (λ_=>?_) λ_=>?_
 ·refine⟨_,gL,m.lg,by rw[l.2.2.1];lia,_,gL,by rw[oP,l.2.2.1];lia,gJ,?_⟩;rw[X];exact h _ ww (.inl (.inr (.inr ⟨o,M,E,m,.inr gL,gL⟩))) (wM m W C)
 try dsimp only
 refine iZ (λb=>b=decide (p=4)) (λq a=>⟨_,gL,a _ gL⟩) (λ_=>?_) λ_=>?_
 ·refine ñ (sU F c) λro r4 rn=>?_;have rl:=(pX F c).1;refine⟨_,gL,m.lg,by rw[l.2.2.1];lia,by rw[oP,l.2.2.1,l.1];lia,_,gL,fs,an,r,gL,F,c,by rw[oP,oP,l.2.2.1,l.1];lia,gJ,?_⟩;have e:=X o (jH r);unfold FF at e;rw[a8 rn,<- pM]at e;have e:("turn ":â)++c9 (t6 ((o:Nat):Int))++" "++E8 r=_:=e;rw[e];exact h _ ww (.inl (.inr (.inr ⟨o,jH r,E,m,.inr gL,gL⟩))) (wM m eH ro)
 refine⟨_,gL,m.lg,by rw[l.2.2.2];lia,gJ,?_⟩
 have e:("out ":â)++c9 (t6 ((o:Nat):Int))=tx [("out":â),nF (o:Nat)]:=by
  rw[show("out ":â)="out"++" " by decide +kernel];exact wX (ws:=[nF (o:Nat)]) gC
 rw[e];exact h _ ww (.inl (.inr (.inr ⟨o,[],E,m,.inl gL,gL⟩))) (Wd.of cR gC λx hx=>by rw[aU.mp hx];exact⟨m.bl,m.asc⟩)
def Kg:Fm P w K mg base sC 33 kh ["self","word"] (jO K (Lu G A)):=by
 refine TJ (F:=mM A) T.D_3.F Kr λb nd g n r Q h=>?_;obtain⟨fs,an,d,m,p,j,t,f,w,o,rfl,W,h⟩:=h;refine⟨_,(cD (rO (i:=2) (tU cR (pP (K:=K) gL (aD 0)) (λh=>tO h T.C_Book T.M_10 (Ek T) (b.mono cS) T.D_10.d .nil gZ)) (λh=>mD (i:=2) nd gL (by first | exact g4 gL | exact f7 gL) h))
 (cD (jQ (rK (cN fR jN (aD 1) bI))
 (dI (iO (jJ (cd (NC T) b (aA (aD 2) aF)))))
 iB)
 (cD (jQ (rK (cN fR jN (aD 1) bI))
 (dI (iO (wH (Gs T) T.D_53.m T.D_53.k T.D_53.d (b.mono cS) (dR (tU cR (pP (K:=K) gL (aD 0)) (λh=>tO h T.C_Book T.M_9 (Km T) (b.mono cS) T.D_9.d .nil gZ)) lB) (λh=>kE (Gs T) (b.mono cS) gL T.D_53.m T.D_53.k T.D_53.d .nil gZ h))))
 iB)
 (cD (mB kU)
 (cD (mB kU)
 (dI (mB kU))))))),?_⟩
 obtain rfl:=gU o;have F:=W.rw.F;have few:=W.rw.few;have f50:=W.rw.f50;refine Ä W.tr λtr dep=>?_
 have kn:t.kn<=15:=by
  have:=t.kn_dep;have:2^t.dep<=2^4:=fH cS dep;lia
 refine wW (jX t) (λq a=>⟨_,gL,G,_,_,lA g,gL,T.C_Desk,T.n_Desk_book,gL,gL,g,gL,gL,by rw[W.st];exact a⟩) ?_;rcases h with⟨rfl,h⟩ | ⟨rfl,h⟩
 ·refine yD (λq a=>⟨_,gL,by show q n (decide _);rw[a9 rfl];exact a⟩) ?_;have s:=pN F tr;exact⟨_,gL,fs,an,t,gL,F,tr,eH,eH,h eH⟩
 ·refine nA (λq a=>⟨_,gL,by show q n (decide _);rw[b8 cR];exact a⟩) ?_;refine yD (λq a=>⟨_,gL,by show q n (decide _);rw[a9 rfl];exact a⟩) ?_;have c:∀e∈j,e.1<=60:=λe l=>by have:=W.rw.lt e l;lia
  exact⟨_,gL,G,_,_,lA g,gL,T.C_Desk,T.n_Desk_book,gL,gL,g,j,gL,gL,W.kv,fs,an,j,gL,F,W.rw.ok,c,eH,h (BZ F W.rw.ok c eH)⟩
def Kh:Fm P w K mg base sC 33 jk ["self","word","case"] (jO K (Lv G A)):=by
 refine TJ (F:=mM A) T.D_4.F Aw λl nd j n ds Q h=>?_;obtain⟨fs,an,d,m,Bo,ks,t,f,w,o,M,rfl,W,g,h⟩:=h;refine⟨_,(cD (jQ (rK (rM (tv (cd (ZL T) l (aA (pP (K:=K) gL (aD 0)) (aA (aD 2) aF))))))
 (dI (mB kU))
 iB)
 (cD (rO (i:=3) (tU cR (pP (K:=K) gL (aD 0)) (λh=>tO h T.C_Book T.M_10 (Ek T) (l.mono cS) T.D_10.d .nil gZ)) (λh=>mD (i:=3) nd gL (by first | exact g4 gL | exact f7 gL) h))
 (cD (mB (ss 4 nd (cd (Ny T) l (aA (pP (K:=K) gL (aD 0)) (aA (aD 3) (aA (aD 2) aF))))))
 (cD (jQ (rK (cN fR jN (aD 1) bI))
 (dI (iO (jJ (aD 4))))
 iB)
 (cD (mB (mQ (i:=5) (fr:=[wy,wy]) (N':=["question","side"]) (eX (GC (cF (Ew T) l (aA (pP (K:=K) gL (aD 0)) (aA (aD 3) (aA (aD 2) aF)))))) (λb=>⟨(pU (qP gL (fB (pk 0) (fB (pk 1) nO)))),gQ,(cd (Ob T) l (aA (aD 0) (aA (aD 1) aF)))⟩) (λH E=>kW (show pZ _ (aV (iK (top 77) 4)) ["self","word","case","tree","answer","way"] ["question","side"] [wy,wy]=wx from by decide +kernel) nd gL (by first | exact g4 gL | exact f7 gL) gL H E gL)))
 (dI (iO (jJ (mL bI (aA (cE bE dE (aD 5) (fU (aA (aD 4) aF))) aF) (λh y=>gY bY cZ cX mK h y)))))))))),?_⟩
 obtain rfl:=gU M;have F:=W.rw.F;refine Ä W.tr λtr dep=>?_;refine nA (λq c=>⟨_,gL,G,_,_,j.fm,gL,T.C_Desk,T.n_Desk_form,gL,_,gL,fs,an,_,by rw[W.fm],F,Yl F g,by rw[g];exact c⟩) ?_;refine wW (jX t) (λq c=>⟨_,gL,G,_,_,lA j,gL,T.C_Desk,T.n_Desk_book,gL,gL,j,gL,gL,by rw[W.st];exact c⟩) ?_;refine qX (cL (.str (mF fs t o)) (λq c=>⟨_,gL,G,_,_,j.fm,gL,T.C_Desk,T.n_Desk_form,gL,_,gL,_,gL,fs,an,t,_,by rw[W.fm],F,tr,g,eH,c⟩) ?_);have wl:=AD (fs:=fs) t o;refine Ô (RK F g tr dep) λX B y _=>?_;rcases h with⟨rfl,h⟩ | ⟨rfl,h⟩
 ·refine yD (λq c=>⟨_,gL,by show q n (decide _);rw[a9 rfl];exact c⟩) ?_;exact⟨_,gL,h eH⟩
 refine nA (λq c=>⟨_,gL,by show q n (decide _);rw[b8 cR];exact c⟩) ?_;have u:=AE F g tr;unfold G5 at h B
 generalize C:lL fs t o=L at u wl h X B
 refine qX (cL (.list ((L.map nB).map aI)) (λq c=>?_) ?_)
 ·refine LF (ts:=L) (λR h=>⟨_,gL,G,_,_,j.fm,gL,T.C_Desk,T.n_Desk_form,gL,_,gL,_,gL,fs,an,t,_,by rw[W.fm],F,tr,g,eH,by rw[C];exact⟨_,gL,h⟩⟩) (λx=>.str (nB x)) eH (λx N=>?_) (λa b q J c=>?_) ?_
  ·obtain⟨k,n,v,s,rfl,_⟩:=u x N;exact⟨_,_,gL⟩
  ·refine Ê (u _ J) λk n v s e S=>?_;cases e;have p:=λz r=>(rT (S z r)).2.2;exact⟨_,gL,_,gL,k,n,v,s,gL,p k gC,p n gC,p v gC,p s gC,c⟩
  ·rw[bJ]at c;exact c
 exact⟨", ",gL,_,gL,_,gL,gJ,by rw[aC,aC];show L.length+1<=_;lia,L.map nB++[mF fs t o],by rw[cC];rfl,eH,h eH⟩
def Kf:Fm P w K mg base sC 18 jj ["self","words"] (jO K (Ls G A)):=by
 refine TJ (F:=mM A) T.D_2.F De λp nd g n S Q h=>?_;obtain⟨fs,an,d,m,R,C,t,f,ws,N,rfl,W,h⟩:=h;refine⟨_,(cD (jQ (rK (cN fR jN (bP aY cI (aD 1) aN) bI))
 (dI (iO (Mh sY (dR (Mi aY cI (oU cR (pP (K:=K) gL (aD 0)) (qJ (aA (cd (SI T) p (aA (dZ gB mV (aD 1) (eL aN) fG) aF)) aF)) (λh i=>hU h T.C_Book T.M_6 (Kj T) (p.mono cS) T.D_6.d .nil gZ i)) (jJ aN)) lB) (λh=>tP kZ gL T.b_str rW h))))
 iB)
 (cD (jQ (rK (cN fR jN (bP aY cI (aD 1) aN) bI))
 (dI (pS (oU cR (pP (K:=K) gL (aD 0)) (qJ (aA (cY LX (aA (bP aY cI (aD 1) aN) aF) xO T.b_int CM) aF)) (λh i=>hU h T.C_Book T.M_7 (Kk T) (p.mono cS) T.D_7.d .nil gZ i)) (λh=>gK h)))
 (dI (pS (oU cR (pP (K:=K) gL (aD 0)) (qJ (aA (cY LX (aA (bP aY cI (aD 1) aN) aF) xO T.b_int CM) (aA (cd (SI T) p (aA (dZ gB mV (aD 1) (eL aN) fG) aF)) aF))) (λh i=>hU h T.C_Book T.M_8 (Kl T) (p.mono cS) T.D_8.d .nil gZ i)) (λh=>gK h))))
 (dI (iO (jJ bI))))),?_⟩
 obtain rfl:=gU N;have b:∀(w:â)(r:List â),atI ((w::r).map aI) 0=wz (.str w):=λw r=>L2.eR gL;have E:∀(k:Nat)(u:List â),fY (u.map aI) (wz (k:Nat)) wy=(u.drop k).map aI:=λk u=>by rw[hX,sX]
 have ne:∀{x y:â}(q:HF->Bool->Prop),x≠y->q n ww->q n (decide (x=y)):=λq h z=>by rw[b8 h];exact z
 have eq:∀{x:â}(q:HF->Bool->Prop),q n wx->q n (decide (x=x)):=λq z=>by rw[a9 rfl];exact z
 have F:=W.rw.F;have few:=W.rw.few;have f50:=W.rw.f50;refine Ä W.tr λtr dep=>?_;have d4:=W.d4;have v:("ok":â).length<=90000:=by decide +kernel
 rcases h with⟨r,a,rfl,h⟩ | ⟨k,r,o,rfl,h⟩ | ⟨k,r,L,o,a,rfl,h⟩
 ·refine yD (λq c=>⟨_,gL,_,b _ _,eq q c⟩) ?_;have H:=K72.nk (k:=f) (.inl eH);have X:=H.asc.len;exact⟨_,gL,G,_,_,lA g,gL,T.C_Desk,T.n_Desk_book,gL,gL,_,gL,jH r,by show[fD (fY _ (wz 1) wy)]=_;exact d8 (λl=>[fD l]) (E 1 _),by have:=(sU F a).2.1;lia,fs,an,d,m,g,C,f,r,t,gL,by rw[FA F a];rfl,F,W.fm,W.dp,W.ls,W.kv,W.rw.ok,eH,eH,W.st,tr,eH,W.fol,eH,(λe M z=>by have:=W.rw.lt e M;lia),a,Hk F a,λB j J=>⟨_,gL,H.lg,h B j eH⟩⟩
 ·have s:=W.rw.nk o;refine nA (λq c=>⟨_,gL,_,b _ _,ne q cR c⟩) ?_;refine yD (λq c=>⟨_,gL,_,b _ _,eq q c⟩) ?_;exact⟨_,gL,G,_,_,lA g,gL,T.C_Desk,T.n_Desk_book,gL,gL,_,gL,_,L2.eR gL,_,s.int,by have:=s.asc.len;lia,fs,an,d,m,g,C,k,r,t,gL,gL,F,W.fm,W.dp,W.ls,W.kv,W.rw.ok,eH,eH,W.st,tr,eH,o,λB j J=>h B j v⟩
 ·have s:=W.rw.nk o;refine nA (λq c=>⟨_,gL,_,b _ _,ne q cR c⟩) ?_;refine rJ ww (λq c=>⟨_,gL,_,b _ _,ne q cR c⟩) (λz=>by cases z) λ_=>?_;exact⟨_,gL,G,_,_,lA g,gL,T.C_Desk,T.n_Desk_book,gL,gL,_,gL,_,L2.eR gL,_,s.int,by have:=s.asc.len;lia,_,gL,jH L,by show[fD (fY _ (wz 2) wy)]=_;exact d8 (λl=>[fD l]) (E 2 _),by have:=(sU F a).2.1;lia,fs,an,d,m,g,C,k,r,L,t,gL,by rw[FA F a];rfl,F,W.fm,W.dp,W.ls,W.kv,W.rw.ok,eH,eH,W.st,tr,eH,o,a,Hk F a,λB j J=>h B j v⟩
def Ke:Fm P w K mg base sC 34 ji ["self","text"] (jO K (Ku G A)):=by
 refine TJ (F:=mM A) T.D_1.F Av λj nd c n M Q h=>?_;obtain⟨fs,an,d,m,L,s,t,f,u,E,rfl,W,o,h⟩:=h;refine⟨_,(cD (mB (ss 2 nd (wI (aD 1) (aA bI aF) (λh g=>gY bY lQ lP wD h g))))
 (cD (jQ (rK (rM (tv (cd (Gp T) j (aA (aD 2) aF)))))
 (dI (mB kU))
 iB)
 (cD (jQ (rK (cN rR P3 (bP aY cI (aD 2) aN) (A9 gL T.c_SINGLE_WORDS T.t_SINGLE_WORDS)))
 (dI (iO (A6 (aD 0) (qJ (aA (bP aY cI (aD 2) aN) aF)) (λh g=>hU h T.C_Desk T.M_3 (Kg T) (j.mono cS) T.D_3.d .nil gZ g))))
 iB)
 (cD (jQ (rK (cN rR P3 (bP aY cI (aD 2) aN) (eV (aA bI (aA bI aF)))))
 (dI (iO (A6 (aD 0) (qJ (aA (bP aY cI (aD 2) aN) (aA (cd (ZJ T) j (aA (dZ gB mV (aD 2) (eL aN) fG) aF)) aF))) (λh g=>hU h T.C_Desk T.M_4 (Kh T) (j.mono cS) T.D_4.d .nil gZ g))))
 iB)
 (dI (iO (A6 (aD 0) (qJ (aA (aD 2) aF)) (λh g=>hU h T.C_Desk T.M_2 (Kf T) (j.mono cS) T.D_2.d .nil gZ g)))))))),?_⟩
 obtain rfl:=gU E;have b:∀(w:â)(r:List â),atI ((w::r).map aI) 0=wz (.str w):=λw r=>L2.eR gL;have C:=o.asc.len;refine qX (cL (.list (u.map aI)) (λq a=>⟨_,gL,_,gL,cR,eH,by show q (.list ((Txt.split (tx u) dO).map aI));rw[o.split];exact a⟩) ?_);have i:∀{w:â}{r:List â},u=w::r->∀y∈r,y.length<=100000:=λe y H=>bK (o.ok y (by rw[e];exact aE _ H)).2.len cS;rcases h with h | ⟨w,rfl,h⟩ | ⟨w,p,rfl,x,h⟩
 ·refine Ñ (h.dn W.rw) λw r Z n1 J z=>?_;subst Z;refine nA (λq a=>⟨_,gL,w,r,gL,i gL,by rw[z];exact a⟩) ?_;refine nA (λq a=>⟨_,gL,_,b _ _,_,gL,by show q n (decide _);rw[b8 n1];exact a⟩) ?_;refine nA (λq a=>⟨_,gL,_,b _ _,gJ,["judge","why"],gL,by show q n (decide _);rw[b8 J];exact a⟩) ?_;exact⟨_,gL,["form","book"],[c.fm,lA c],gL,cR,_,gL,fs,an,d,m,c,s,t,f,_,gL,gL,W,h⟩
 ·have v:qR [w]=wx/\w∈(["tree","rows","rules","steps"]:List â):=by rcases h with⟨rfl,_⟩ | ⟨rfl,_⟩<;>decide +kernel
  refine nA (λq a=>⟨_,gL,w,[],gL,i gL,by rw[v.1];exact a⟩) ?_;refine yD (λq a=>⟨_,gL,_,b _ _,_,gL,by show q n (decide _);rw[a9 v.2];exact a⟩) ?_;exact⟨_,gL,["form","book"],[c.fm,lA c],gL,cR,_,gL,_,b _ _,fs,an,d,m,c,s,t,f,w,gL,gL,W,h⟩
 ·have hw:=h.imp And.left And.left;have k:w∉(["tree","rows","rules","steps"]:List â)/\w∈(["judge","why"]:List â):=by rcases hw with rfl | rfl<;>decide +kernel
  have B:=o.len;rw[bD]at B;refine nA (λq a=>⟨_,gL,w,p.map sI,gL,i gL,by rw[S3 hw];exact a⟩) ?_;refine nA (λq a=>⟨_,gL,_,b _ _,_,gL,by show q n (decide _);rw[b8 k.1];exact a⟩) ?_;refine yD (λq a=>⟨_,gL,_,b _ _,gJ,["judge","why"],gL,by show q n (decide _);rw[a9 k.2];exact a⟩) ?_;exact⟨_,gL,["form","book"],[c.fm,lA c],gL,cR,_,gL,_,b _ _,_,gL,p.map sI,by show[fD (fY _ (wz 1) wy)]=_;exact d8 (λl=>[fD l]) (sX _ 1),eH,fs,an,d,m,c,s,t,f,w,p,gL,by rw[XF (qF W.rw.F x)],W,x,h⟩
def ZN:Fm P w K mg base (RD P w) 2 fj ["self","number"] (lT K (pV G A O I)):=by
 refine NZ (F:=mM A) T.D_12.F X8 (λr n g Q h=>by refine Ñ h λa j d y b h=>?_;subst y;rfl) λf l outer s H E c p e n g m h i=>?_;obtain⟨a,j,d,rfl,b,h⟩:=h;have nd:=X8.nd;refine⟨_,(dI (jQ (XI c.u1 T.C_Book T.n_Book_numbered (aD 1) (aD 0))
 (dI (EV i T.E_NoSuch.X (aA bI aF) (λh=>FE T.E_NoSuch.R c gL T.x_NoSuch h)))
 iB)),?_⟩
 obtain rfl:e=a:=gU d;refine KB wx (λq k=>⟨_,gL,j,gL,_,gL,gL,?_⟩) (λ_=>?_) λz=>by cases z
 ·rw[b];exact k
 ·exact⟨gJ,gL,h,λB o hb=>hb⟩
def Op:Fm P w K mg base (RD P w) 17 jo ["self","number"] (lT K (aDm G A O I)):=by
 refine NZ T.D_7.F Ay (λr n k Q h=>by refine Ñ h λf j e z b h=>?_;subst z;rfl) λi m outer s H E c q g n k o h l=>?_;obtain⟨f,j,e,rfl,b,h⟩:=h;refine⟨_,(cD (zX.or (pS (oU cR (aD 0) (qJ (aA (aD 1) aF)) (λh a=>hU h T.C_Book T.M_12 (SK T) (c.mono cS) T.D_12.d .nil gZ a)) (λh=>gK h))
 (tL (rV l cR (aD 0) (qJ (aA (aD 1) aF)) (λh a=>hU h T.C_Book T.M_12 (ZN T) (c.mono cS) T.D_12.d .nil AO a)) (λh=>gK h)))
 (cD (mB kU)
 (dI (mB kU)))),?_⟩
 obtain rfl:=gU e;exact .inr ⟨⟨_,gL,gL,gL,_,gL,g,j,gL,gL,b,h⟩,λB p hb=>hb⟩
def ZO:Fm P w K mg base (RD P w) 4 fi ["self","thing"] (lT K (sO G A O I)):=by
 refine NZ T.D_11.F Gd (λu n i Q h=>by refine ü h λfs an e d c y F b hd hw h=>?_;subst y;rfl) λg o outer s H E a t f n i p h j=>?_;obtain⟨fs,an,e,d,c,rfl,F,b,hd,hw,h⟩:=h;refine⟨_,(dI (jQ (XH (XG (wH (SJ T) T.D_16.m T.D_16.k T.D_16.d (a.mono cS) (dR (uZ T.C_Book T.n_Book_form (aD 0)) (dR (jJ (aD 1)) lB)) (λh=>kE (SJ T) (a.mono cS) gL T.D_16.m T.D_16.k T.D_16.d .nil gZ h)) (λh=>PP h)))
 (dI (EV j T.E_NoRow.X (aA bI aF) (λh=>FE T.E_NoRow.R a gL T.x_NoRow h)))
 iB)),?_⟩
 obtain rfl:=gU c;refine KB wx (λq l=>⟨_,gL,gL,f,_,gL,gL,_,gL,fs,an,d,by rw[b],F,hd,?_⟩) (λ_=>?_) λz=>by cases z
 ·rw[hw];exact l
 ·exact⟨gJ,gL,h,λB r hb=>hb⟩
def Oo:Fm P w K mg base (RD P w) 17 jm ["self","row"] (lT K (aDl G A O I)):=by
 refine NZ T.D_6.F Ax (λq n j Q h=>by refine ü h λfs an f d e z F b hd hw h=>?_;subst z;rfl) λi l outer s H E c p g n j m h k=>?_;obtain⟨fs,an,f,d,e,rfl,F,b,hd,hw,h⟩:=h;refine⟨_,(cD (zX.or (pS (oU cR (aD 0) (qJ (aA (aD 1) aF)) (λh a=>hU h T.C_Book T.M_11 (SL T) (c.mono cS) T.D_11.d .nil gZ a)) (λh=>gK h))
 (tL (rV k cR (aD 0) (qJ (aA (aD 1) aF)) (λh a=>hU h T.C_Book T.M_11 (ZO T) (c.mono cS) T.D_11.d .nil AO a)) (λh=>gK h)))
 (cD (mB kU)
 (cD (mB kU)
 (cD (mB kU)
 (cD (mB kU)
 (dI (mB kU))))))),?_⟩
 obtain rfl:=gU e;exact .inr ⟨⟨_,gL,gL,gL,_,gL,fs,an,g,d,gL,gL,F,b,hd,hw,h⟩,λB o hb=>hb⟩
def Oq:Fm P w K mg base (RD P w) 17 jq ["self","number","row"] (lT K (X4 G A O I)):=by
 refine NZ T.D_8.F Az (λu n o Q h=>by refine ø h λfs an k j d i z F g hd h=>?_;subst z;rfl) λl q outer s H E b t c n o r h f=>?_;obtain⟨fs,an,k,j,d,i,rfl,F,g,hd,h⟩:=h;refine⟨_,(cD (zX.or (pS (oU cR (aD 0) (qJ (aA (aD 1) aF)) (λh a=>hU h T.C_Book T.M_12 (SK T) (b.mono cS) T.D_12.d .nil gZ a)) (λh=>gK h))
 (tL (rV f cR (aD 0) (qJ (aA (aD 1) aF)) (λh a=>hU h T.C_Book T.M_12 (ZN T) (b.mono cS) T.D_12.d .nil AO a)) (λh=>gK h)))
 (cD (zX.or (pS (oU cR (aD 0) (qJ (aA (aD 2) aF)) (λh a=>hU h T.C_Book T.M_11 (SL T) (b.mono cS) T.D_11.d .nil gZ a)) (λh=>gK h))
 (tL (rV f cR (aD 0) (qJ (aA (aD 2) aF)) (λh a=>hU h T.C_Book T.M_11 (ZO T) (b.mono cS) T.D_11.d .nil AO a)) (λh=>gK h)))
 (cD (mB kU)
 (cD (mB kU)
 (dI (mB kU)))))),?_⟩
 obtain rfl:=gU i;rcases h with⟨e,h⟩ | ⟨m,e,hw,h⟩
 ·exact .inr ⟨⟨_,gL,gL,gL,_,gL,c,j,gL,gL,e,h⟩,λB p hb=>hb⟩
 ·refine .inl ⟨_,gL,gL,_,gL,c,j,m,gL,gL,e,?_⟩;exact .inr ⟨⟨_,gL,gL,gL,_,gL,fs,an,c,d,gL,gL,F,g,hd,hw,h⟩,λB p hb=>hb⟩
def Om:Fm P w K mg base (RD P w) 18 jj ["self","words"] (lT K (X5 G A O I)):=by
 refine NZ T.D_2.F De (λτ n X Q h=>by obtain⟨fs,an,S,ks,ws,b,R,rfl,F,o,g,C,N,h⟩:=h;rfl) λW Ar outer s H E m ps f n X ED h t=>?_;obtain⟨fs,an,S,ks,ws,b,R,rfl,F,o,g,C,N,h⟩:=h;refine⟨_,(cD (jQ (rK (cN fR jN (bP aY cI (aD 1) aN) bI))
 (dI (KE (Vf (Vg (rV t cR (pP (K:=K) gL (aD 0)) (qJ (aA (cd (SI T) m (aA (dZ gB mV (aD 1) (eL aN) fG) aF)) aF)) (λh e=>hU h T.C_Book T.M_6 (Oo T) (m.mono cS) T.D_6.d .nil AO e)) nE) (λh=>tP kZ gL T.b_str rW h))))
 iB)
 (cD (jQ (rK (cN fR jN (bP aY cI (aD 1) aN) bI))
 (dI (tL (rV t cR (pP (K:=K) gL (aD 0)) (qJ (aA (cY LX (aA (bP aY cI (aD 1) aN) aF) xO T.b_int CM) aF)) (λh e=>hU h T.C_Book T.M_7 (Op T) (m.mono cS) T.D_7.d .nil AO e)) (λh=>gK h)))
 (dI (tL (rV t cR (pP (K:=K) gL (aD 0)) (qJ (aA (cY LX (aA (bP aY cI (aD 1) aN) aF) xO T.b_int CM) (aA (cd (SI T) m (aA (dZ gB mV (aD 1) (eL aN) fG) aF)) aF))) (λh e=>hU h T.C_Book T.M_8 (Oq T) (m.mono cS) T.D_8.d .nil AO e)) (λh=>gK h))))
 (dI (mB kU)))),?_⟩
 obtain rfl:=gU R;have a:∀(w:â)(r:List â),atI ((w::r).map aI) 0=wz (.str w):=λw r=>L2.eR gL;have p:∀(k:Nat)(u:List â),fY (u.map aI) (wz (k:Nat)) wy=(u.drop k).map aI:=λk u=>by rw[hX,sX]
 have ne:∀{x y:â}(q:HF->Bool->Prop),x≠y->q n ww->q n (decide (x=y)):=λq h z=>by rw[b8 h];exact z
 have eq:∀{x:â}(q:HF->Bool->Prop),q n wx->q n (decide (x=x)):=λq z=>by rw[a9 rfl];exact z
 have L:=C.len;have e:=λy i=>(C.ok y i).2;obtain⟨nk,fol,st⟩:=n;obtain rfl:=g;rcases N with⟨v,rfl,J,rfl⟩ | ⟨k,v,r,g,j,rfl,J,rfl⟩ | ⟨k,v,g,j,rfl | rfl,rfl⟩
 ·refine yD (λq c=>⟨_,gL,_,a _ _,eq q c⟩) ?_;rw[bD]at L;exact⟨⟨_,gL,G,_,_,lA f,gL,T.C_Desk,T.n_Desk_book,gL,gL,gL,_,gL,v,by show[fD (fY _ (wz 1) wy)]=_;exact d8 (λl=>[fD l]) (p 1 _),eH,fs,an,f,_,gL,gL,F,o,LU λy i=>e y (aE _ i),J,h⟩,λB M hb=>hb⟩
 ·refine nA (λq c=>⟨_,gL,_,a _ _,ne q cR c⟩) ?_;refine rJ ww (λq c=>⟨_,gL,_,a _ _,ne q cR c⟩) (λz=>by cases z) λ_=>?_;rw[bD,bD]at L;exact⟨⟨_,gL,G,_,_,lA f,gL,T.C_Desk,T.n_Desk_book,gL,gL,gL,_,gL,_,L2.eR gL,_,j.int,by have:=j.asc.len;lia,_,gL,v,by show[fD (fY _ (wz 2) wy)]=_;exact d8 (λl=>[fD l]) (p 2 _),eH,fs,an,f,_,_,gL,gL,F,o,LU λy i=>e y (aE _ (aE _ i)),.inr ⟨_,uX g,J,h⟩⟩,λB M hb=>hb⟩
 ·refine nA (λq c=>⟨_,gL,_,a _ _,ne q cR c⟩) ?_;refine yD (λq c=>⟨_,gL,_,a _ _,eq q c⟩) ?_;exact⟨⟨_,gL,G,_,_,lA f,gL,T.C_Desk,T.n_Desk_book,gL,gL,gL,_,gL,_,L2.eR gL,_,j.int,by have:=j.asc.len;lia,f,_,gL,gL,JG g,h⟩,λB M hb=>hb⟩
 ·refine nA (λq c=>⟨_,gL,_,a _ _,ne q cR c⟩) ?_;refine rJ ww (λq c=>⟨_,gL,_,a _ _,ne q cR c⟩) (λz=>by cases z) λ_=>?_;rw[bD,bD]at L;exact⟨⟨_,gL,G,_,_,lA f,gL,T.C_Desk,T.n_Desk_book,gL,gL,gL,_,gL,_,L2.eR gL,_,j.int,by have:=j.asc.len;lia,_,gL,v,by show[fD (fY _ (wz 2) wy)]=_;exact d8 (λl=>[fD l]) (p 2 _),eH,fs,an,f,_,_,gL,gL,F,o,LU λy i=>e y (aE _ (aE _ i)),.inl ⟨JG g,h⟩⟩,λB M hb=>hb⟩
def On:Fm P w K mg base (RD P w) 33 jk ["self","word","case"] (lT K (BT G A O I)):=by
 refine NZ (F:=mM A) T.D_4.F Aw (λt n j Q h=>by refine Ę h λfs an b w g f y F d hw a h=>?_;subst y;rfl) λi m outer s H E e r c n j o h k=>?_;obtain⟨fs,an,b,w,g,f,rfl,F,d,hw,a,h⟩:=h;have nd:=Aw.nd;refine⟨_,(cD (jQ (rK (rM (tv (cd (ZL T) e (aA (pP (K:=K) gL (aD 0)) (aA (aD 2) aF))))))
 (dI (EV k T.E_NoRow.X (aA bI aF) (λh=>FE T.E_NoRow.R e gL T.x_NoRow h)))
 iB)
 (cD (mB kU)
 (cD (mB kU)
 (cD (mB kU)
 (cD (mB kU)
 (dI (mB kU))))))),?_⟩
 obtain rfl:c=b:=gU f;refine KB wx (λq l=>⟨_,gL,G,_,_,c.fm,gL,T.C_Desk,T.n_Desk_form,gL,_,gL,fs,an,_,by rw[d],F,OA hw,?_⟩) (λ_=>?_) λz=>by cases z
 ·show q n (!fT fs (.tuple (g.map ER)));unfold wL at a;rw[a];exact l
 ·exact⟨gJ,gL,h,λB p hb=>hb⟩
def Ej:Fm P w K mg base (RD P w) 34 ji ["self","text"] (lT K (aDk G A O I)):=by
 refine NZ T.D_1.F Av (λτ n N Q h=>by obtain⟨fs,an,L,J,p,b,C,rfl,F,t,z,f,i,h⟩:=h;rfl) λM Ar outer s H E o ps g n N ED h x=>?_;obtain⟨fs,an,L,J,p,b,C,rfl,F,t,z,f,i,h⟩:=h;refine⟨_,(cD (mB (ss 2 Av.nd (wI (aD 1) (aA bI aF) (λh j=>gY bY lQ lP wD h j))))
 (cD (jQ (rK (rM (tv (cd (Gp T) o (aA (aD 2) aF)))))
 (dI (mB kU))
 iB)
 (cD (jQ (rK (cN rR P3 (bP aY cI (aD 2) aN) (A9 gL T.c_SINGLE_WORDS T.t_SINGLE_WORDS)))
 (dI (mB kU))
 iB)
 (cD (jQ (rK (cN rR P3 (bP aY cI (aD 2) aN) (eV (aA bI (aA bI aF)))))
 (dI (KE (JM x (aD 0) (qJ (aA (bP aY cI (aD 2) aN) (aA (cd (ZJ T) o (aA (dZ gB mV (aD 2) (eL aN) fG) aF)) aF))) (λh j=>hU h T.C_Desk T.M_4 (On T) (o.mono cS) T.D_4.d .nil AO j))))
 iB)
 (dI (KE (JM x (aD 0) (qJ (aA (aD 2) aF)) (λh j=>hU h T.C_Desk T.M_2 (Om T) (o.mono cS) T.D_2.d .nil AO j)))))))),?_⟩
 obtain rfl:=gU C;have c:∀(w:â)(r:List â),atI ((w::r).map aI) 0=wz (.str w):=λw r=>L2.eR gL;have X:=f.asc.len;refine qX (cL (.list (p.map aI)) (λq a=>⟨_,gL,_,gL,cR,eH,by show q (.list ((Txt.split (tx p) dO).map aI));rw[f.split];exact a⟩) ?_);have k:∀{w:â}{r:List â},p=w::r->∀y∈r,y.length<=100000:=λe y u=>bK (f.ok y (by rw[e];exact aE _ u)).2.len cS;rcases i with i | ⟨w,v,hw,rfl,R,rfl⟩
 ·refine Ñ i.dn λw r Z n1 n2 S=>?_;subst Z;refine nA (λq a=>⟨_,gL,w,r,gL,k gL,by rw[S];exact a⟩) ?_;refine nA (λq a=>⟨_,gL,_,c _ _,_,gL,by show q n (decide _);rw[b8 n1];exact a⟩) ?_;refine nA (λq a=>⟨_,gL,_,c _ _,gJ,["judge","why"],gL,by show q n (decide _);rw[b8 n2];exact a⟩) ?_;exact⟨⟨_,gL,gL,["form","book"],[g.fm,lA g],gL,cR,_,gL,fs,an,g,J,_,b,gL,gL,F,t,z,f,i,h⟩,λB p0 hb=>hb⟩
 ·have m:w∉(["tree","rows","rules","steps"]:List â)/\w∈(["judge","why"]:List â):=by rcases hw with rfl | rfl<;>decide +kernel
  have W:=f.len;rw[bD]at W;refine nA (λq a=>⟨_,gL,w,v,gL,k gL,by rw[S3 hw];exact a⟩) ?_;refine nA (λq a=>⟨_,gL,_,c _ _,_,gL,by show q n (decide _);rw[b8 m.1];exact a⟩) ?_;refine yD (λq a=>⟨_,gL,_,c _ _,gJ,["judge","why"],gL,by show q n (decide _);rw[a9 m.2];exact a⟩) ?_;exact⟨⟨_,gL,gL,["form","book"],[g.fm,lA g],gL,cR,_,gL,_,c _ _,_,gL,v,by show[fD (fY _ (wz 1) wy)]=_;exact d8 (λl=>[fD l]) (sX _ 1),eH,fs,an,g,w,v,gL,gL,F,t,λy u=>(f.ok y (aE _ u)).2,R,h⟩,λB p0 hb=>hb⟩
def CZ:Fj P w base T.D_69 35 (jO K (To G A)):=by
 refine TJ (F:=mM A) T.D_69.F Sf λg nd a n C Q h=>?_;obtain⟨fs,an,d,m,B,l,t,f,o,x,rfl,W,k,h⟩:=h;refine⟨_,(cD (mB (ss 2 nd bI))
 (cD (zX.or (aCz (dI (rO (i:=2) (Mj bE dE (jJ bI) (A6 (aD 0) (qJ (aA (aD 1) aF)) (λh j=>hU h T.C_Desk T.M_1 (Ke T) (g.mono cS) T.D_1.d .nil gZ j))) (λh=>mD (i:=2) nd gL (by first | exact g4 gL | exact f7 gL) h))) (λh=>Zz zH h)) (zX.or (by refine' RT (Wd:=λc=>iL K c (.ref O)=wz wx) (i:=3) (IF (aD 0) (qJ (aA (aD 1) aF)) (λh j=>YF (Fz zH iU (R5 zH h T.C_Desk T.M_1 (Ej T) (g.mono cS) T.D_1.d j)))) (λs=>?hb) (λr b=>SD (pre:=[]) zH gL gL nd gL gL (.inl gL) gL T.x_NoRow (λ_ h=>h) r b);(case hb=>(refine' (dI (mB (iN (rL (vR (tv (show fP _ _ (yt K (.type "ValueError") (N2 3))from ?z1)) (sL (rM (tv (show fP _ _ (TU K [Z,U,m4,I,m5,Y] (N2 3))from ?z0))))))   (bQ (ss 2 nd bI))   fM)));(case z0=>exact(TM (cs:=[Z,U,m4,I,m5,Y]) (aD 3) (λh=>mR JS gL T.b_isinstance nL (eF h (eF (FH (eF (lM gL T.x_NoLine gL) (eF (lM gL T.x_NoPlace gL) (eF (lM gL T.x_NoRule gL) (eF (lM gL T.x_NoSuch gL) (eF (lM gL T.x_NoText gL) (eF (lM gL T.x_TooMany gL) kX))))))) kX)))));(case z1=>exact(Ie (c:=.type "ValueError") (cv:=.ty "ValueError") (aD 3) (λh=>mR (OD λ_ z=>z) gL T.b_isinstance nL (eF h (eF (K1 gL T.b_ValueError yM gL) kX))))))))
 (by refine' RT (Wd:=λc=>iL K c (.ref O)=wz ww/\iL K c (.ref I)=wz wx) (i:=3) (IF (aD 0) (qJ (aA (aD 1) aF)) (λh j=>YF (Fz zH iU (R5 zH h T.C_Desk T.M_1 (Ej T) (g.mono cS) T.D_1.d j)))) (λs=>?hb) (λr b=>SD (pre:=[_]) zH gL gL nd gL gL (.inr ⟨_,_,_,_,_,_,gL,gL,T.x_NoRow,cS,λ_ h=>h.1⟩) gL T.x_NoSuch (λ_ h=>h.2) r b);(case hb=>(refine' (dI (mB (iN (rL (vR (tv (show fP _ _ (yt K (.type "ValueError") (N2 3))from ?z3)) (sL (rM (tv (show fP _ _ (TU K [Z,U,m4,O,m5,Y] (N2 3))from ?z2))))))   (bQ (ss 2 nd bI))   fM)));(case z2=>exact(TM (cs:=[Z,U,m4,O,m5,Y]) (aD 3) (λh=>mR JS gL T.b_isinstance nL (eF h (eF (FH (eF (lM gL T.x_NoLine gL) (eF (lM gL T.x_NoPlace gL) (eF (lM gL T.x_NoRule gL) (eF (lM gL T.x_NoRow gL) (eF (lM gL T.x_NoText gL) (eF (lM gL T.x_TooMany gL) kX))))))) kX)))));(case z3=>exact(Ie (c:=.type "ValueError") (cv:=.ty "ValueError") (aD 3) (λh=>mR (OD λ_ z=>z) gL T.b_isinstance nL (eF h (eF (K1 gL T.b_ValueError yM gL) kX))))))))))
 (dI (iO (jJ (aD 2)))))),?_⟩
 obtain rfl:=gU x;have p:("told ":â).length=5:=rfl
 refine qX (cL (.str "") (λq u=>u) ?_);rcases h with⟨b,g,h⟩ | h
 ·cases b with
  |true=>exact .inr (.inl ⟨_,gL,["form","book"],[a.fm,lA a],gL,cR,_,gL,fs,an,a,l,o,wx,gL,gL,W.rw.F,W.fm,W.kv,k,g,⟨O,gL,T.E_NoRow.e⟩,xo T.E_NoRow.v gJ T.q_NoRow ⟨_,gL,h⟩⟩)
  |false=>exact .inr (.inr ⟨_,gL,["form","book"],[a.fm,lA a],gL,cR,_,gL,fs,an,a,l,o,ww,gL,gL,W.rw.F,W.fm,W.kv,k,g,⟨I,gL,T.u_NoSuch_NoRow,T.E_NoSuch.e⟩,xo T.E_NoSuch.v gJ T.q_NoSuch ⟨_,gL,h⟩⟩)
 ·exact .inl ⟨_,gL,["form","book"],[a.fm,lA a],gL,cR,_,gL,fs,an,d,m,a,l,t,f,o,gL,gL,W,k,h.mono λE z h y=>⟨by rw[p];lia,_,gL,h y⟩⟩
def Pk:Fj P w base T.D_73 17 (jO K Ur):=by
 refine TJ (F:=IC) T.D_73.F Sj λc nd u n ds Q h=>?_;obtain⟨ns,fs,an,d,m,S,g,t,f,ht,rfl,L,w,rfl,X,qv,hd,hm,vd,E,h⟩:=h;refine⟨_,(cD (rO (i:=3) (mW 2 (A8 (kN c.u1 (aD 2) iU) (pc:=λh=>mR (vB gL) gL T.b_sorted tW h))) (λh=>mD (i:=3) nd gL (by first | exact g4 gL | exact f7 gL) h))
 (cD (mB (ss 4 nd (cd (Gv T) c (aA (aD 0) (aA (aD 1) aF)))))
 (cD (jQ (rK (rL (vR (cN (PZ c) uS (aD 3) (fU aF)) (sL (cN fR jN (cd (jI T) c (aA (aD 0) (aA aN aF))) aN)))))
 (dI (rO (i:=4) (mW 2 (LO c.u1 (kN c.u1 (aD 2) iU) (bP aY cI (aD 3) (cd (jI T) c (aA (aD 0) (aA (cB jB (aA (aD 3) aF) cJ T.b_len fV) aF)))))) (λh=>mD (i:=4) nd gL (by first | exact g4 gL | exact f7 gL) h)))
 iB)
 (cD (rO (i:=5) (mW 2 (kN c.u1 (aD 2) iU)) (λh=>mD (i:=5) nd gL (by first | exact g4 gL | exact f7 gL) h))
 (cD (mB (ss 6 nd (cd (jI T) c (aA (aD 0) (aA aN aF)))))
 (cD (jQ (rK (rL (CT (cN IM sE (aD 6) aN) (yX (rL (vR (cN IM sE (aD 6) aN) (sL (cN (FI c) uS (aD 3) (fU aF)))))))))
 (cD (RU (i:=2) (aD 5) (aD 4) (λh hi=>D7 c.u1 (xC c.u1 (pv 2) iU (by intro _ _;rfl)) hi h gL))
 (cD (Yc (i:=2) (cE bE dE (aD 5) aN) (λh=>D7 c.u1 (pv 2) iU h gL))
 (dI (iO (jJ (eV (aA (cE bE dE bI (cd (IR T) c (aA (aD 4) aF))) (aA (cE bE dE bI (cY sY (aA (aD 5) aF) kZ T.b_str rW)) aF))))))))
 iB)
 (cD (jQ (rK (cN IM sE (aD 6) aN))
 (cD (mB (ss 5 nd (bP aY cI (aD 3) (cd (jI T) c (aA (aD 0) (aA (cB jB (aA (aD 3) aF) cJ T.b_len fV) aF))))))
 (cD (jQ (rK (cN fR jN (aD 6) aN))
 (cD (aC1 (i:=2) (aD 5) (pc:=λh=>gK (gY oC vN MM SX (xC c.u1 (pv 2) iU (by intro _ _;rfl)) h)))
 (dI (iO (jJ (eV (aA (cE bE dE bI (cY sY (aA (aD 5) aF) kZ T.b_str rW)) (aA bI aF)))))))
 iB)
 (cD (RU (i:=2) (aD 5) (aD 4) (λh hi=>D7 c.u1 (xC c.u1 (pv 2) iU (by intro _ _;rfl)) hi h gL))
 (dI (iO (jJ (eV (aA (cE bE dE (cE bE dE (cE bE dE bI (cY sY (aA (aD 5) aF) kZ T.b_str rW)) bI) (cd (IR T) c (aA (aD 4) aF))) (aA bI aF)))))))))
 iB)
 (cD (rO (i:=7) (mW 2 (cd (Gz T) c (aA (aD 1) (aA (aD 2) aF)))) (λh=>mD (i:=7) nd gL (by first | exact g4 gL | exact f7 gL) h))
 (cD (mB (ss 8 nd (mL bI (aA (el (fr:=[wy]) (N':=["_law_value"]) (eX (bP aY cI (aD 4) aN)) (λb=>⟨(eB (pk 0)),gQ,(cd (Gw T) c (aA (aD 0) aF))⟩)) aF) (λh W=>gY bY cZ cX mK h W))))
 (cD (jQ (rK (cN fR jN (aD 6) aN))
 (dI (iO (jJ (eV (aA bI (aA (cE bE dE bI (cd (Gx T) c (aA (aD 7) aF))) aF))))))
 iB)
 (cD (jQ (rK (cN fR jN (aD 6) aN))
 (dI (iO (mW 2 (eV (aA bI (aA (cE bE dE bI (cd (ZF T) c (aA (aD 2) aF))) aF))))))
 iB)
 (cD (jQ (rK (cN fR jN (aD 6) aN))
 (dI (iO (jJ (eV (aA (cE bE dE bI (aD 8)) (aA (cE bE dE bI (bP aY cI (wI (cd (Gy T) c (aA (aD 1) (aA (aD 7) (aA (bP aY cI (aD 4) aN) aF)))) (aA bI aF) (λh W=>gY bY lQ lP wD h W)) (wJ aN))) aF))))))
 iB)
 (dI (iO (jJ (eV (aA (cE bE dE bI (aD 8)) (aA (cE bE dE bI (cd (Gy T) c (aA (aD 1) (aA (aD 7) (aA (bP aY cI (aD 4) aN) aF))))) aF)))))))))))))))))),?_⟩
 obtain rfl:u=S:=KH ht;obtain⟨ui,uj,uk⟩:=w.len;obtain⟨oE,eE⟩:=w.eq;have F:=w.F;have few:=w.few;obtain⟨tr,dep⟩:=NY d E;have l:(" ":â).length=1/\("put ":â).length=4/\("turn ":â).length=5/\("out ":â).length=4/\("told ":â).length=5/\("judge ":â).length=6/\("why ":â).length=4:=by decide +kernel
 have kl:(mE g).length<=100000:=by lia
 show BO (F:=IC) _ _ _ _ _ [.val (jP ns),.val (gM fs an),.val (vL u),.un,.un,.un,.un,.un,.un];refine wW (.list (MU g)) (λq a=>⟨u,gL,gL,_,gL,_,_,_,_,_,gL,gL,mE g,gL,uj,λus B h2=>by rw[Gm B h2 w.ris];exact⟨Xc g,a⟩⟩) ?_;refine qX (dP (λd=>∃r:Rw,kJ fs an r/\d=eJ r) (λq a=>⟨_,gL,_,gL,ns,fs,an,gL,L,F,λr c=>a _ ⟨r,c,gL⟩⟩) ?_);rintro _ ⟨r0,mz,rfl⟩;refine Xx (g≠[]) (λmm σ=>mm=⟨mE g,(f:Nat)⟩/\∃r,kJ fs an r/\σ=[.val (jP ns),.val (gM fs an),.val (vL u),.val (.list (MU g)),.val (eJ r),.un,.un,.un,.un]) (λq a=>?_) (λhn py hD=>?_) ⟨gL,r0,mz,gL⟩ ?_
 ·refine⟨_,gL,gJ,oE,?_⟩;show(if(!dW (.list (MU g)) (.list []))=wx then _ else q _ ww);rw[eE];by_cases z:g=[]
  ·rw[a9 z,a8 cS];exact a _ λy=>by cases y
  ·rw[b8 z,b7 cS];exact⟨_,gL,ns,4,gL,L,cS,cS,λi _ _=>a _ λ_=>z⟩
 ·refine⟨u,gL,gL,_,gL,_,_,_,_,_,gL,gL,_,gL,_,gL,_,gL,ns,((MU g).length:Int),gL,L,?_,?_,λi J B=>?_⟩
  ·have:=nT.mpr hn;lia
  ·lia
  ·obtain⟨k,r,s,E,o⟩:=w.pick J B;exact⟨_,s,mE g,(k:Nat),eJ r,gL,gL,uX E,Zh o,hD _ _ ⟨gL,r,o,gL⟩⟩
 rintro _ _ ⟨rfl,r,j,rfl⟩;have rl:=(pX F j).1;refine wW (.int (f:Nat)) (λq a=>⟨u,gL,gL,_,gL,_,_,_,_,_,gL,gL,gL,a⟩) ?_;refine qX (dP (λd=>∃i:Int,0<=i/\i<10/\d=.int i) (λq a=>⟨_,gL,ns,10,gL,L,cS,cS,λi J B=>a _ ⟨i,J,B,gL⟩⟩) ?_);rintro _ ⟨p,w0,wk,rfl⟩;dsimp only[DE];have v:∀{k:Nat},Nk k->(c9 (t6 ((k:Nat):Int))).length<=9:=λnk=>nk.asc.len;refine rJ (decide (p<4)||(decide (p<6)&&decide (g=[]))) (λq a=>⟨_,gL,?_⟩) (λ_=>?_) λhF=>zn ?_
 ·show(if decide (p<4)=wx then q _ wx else _);by_cases z:p<4
  ·rw[a9 z]at a |-;exact a
  ·rw[b8 z]at a |-
   rw[a8 cS];refine⟨_,gL,?_⟩;show(if decide (p<6)=wx then _ else q _ ww);by_cases z6:p<6
   ·rw[a9 z6]at a |-
    rw[b7 rfl];refine⟨_,gL,gJ,oE,?_⟩;show q _ (dW (.list (MU g)) (.list []));rw[eE];exact a
   ·rw[b8 z6]at a |-;exact a
 ·have nf:=K72.nk (k:=f) (.inl eH);have f9:=v nf;refine⟨_,gL,gL,_,gL,(f:Nat),gL,kl,?_⟩;refine⟨_,gL,_,gL,gL,?_⟩;refine⟨_,gL,fs,an,r,gL,F,j,by rw[l.2.1];lia,_,gL,nf.lg,by rw[l.2.2.2.2.1];lia,gJ,?_⟩;have:=h _ _ _ _ (.inl ⟨r,j,gL,gL,gL,gL⟩);rw[<- M9 (λe he z=>by have:=w.lt e he;lia),<- KG (x:="put ") cR (sU F j).2.2]at this;exact this
 dsimp only;rw[yU,j5]at hF;refine rJ (decide (p<6)) (λq a=>⟨_,gL,a⟩) (λh6=>?_) λ_=>zn ?_
 ·have hn:g≠[]:=by
   have:=hF.2;rw[h6,kQ,j5]at this;exact this
  have mx:=nT.mpr hn;refine qX (dP (λd=>∃(k:Nat)(r:Rw),qZ k g=wz r/\d=.int (k:Nat)) (λq a=>⟨_,gL,_,gL,_,gL,ns,((MU g).length:Int),gL,L,eH,eH,λi J B=>?_⟩) ?_)
  ·obtain⟨k,r,s,E,o⟩:=w.pick J B;exact⟨_,s,a _ ⟨k,r,E,gL⟩⟩
  rintro _ ⟨k,r2,s,rfl⟩;dsimp only[DE];have kk:=w.nk s;have k9:=v kk;refine rJ (decide (p=4)) (λq a=>⟨_,gL,a⟩) (λ_=>?_) λ_=>zn ?_
  ·refine⟨gL,_,gL,(k:Nat),eJ r2,gL,uX s,?_⟩;refine⟨_,gL,kk.lg,by rw[l.2.2.2.1];lia,gJ,?_⟩;have:=h _ _ _ _ (.inr (.inl ⟨k,r2,s,gL,gL,gL,gL⟩));rw[<- N3,<- KG (x:="out ") (ws:=[nF (k:Nat)]) cR gC]at this;exact this
  dsimp only;refine⟨_,gL,gL,_,gL,(k:Nat),gL,kl,?_⟩;refine⟨_,gL,kk.lg,by rw[l.2.2.1];lia,by rw[oP,l.2.2.1,l.1];lia,_,gL,fs,an,r,gL,F,j,by rw[oP,oP,l.2.2.1,l.1];lia,gJ,?_⟩;have:=h _ _ _ _ (.inr (.inr (.inl ⟨k,r2,r,s,j,gL,gL,gL,gL⟩)))
  have e:("turn ":â)++nF (k:Nat)++" "++tx (jH r)=tx (("turn":â)::nF (k:Nat)::jH r):=by
   rw[pM ("turn "++nF (k:Nat)),pM "turn ",<- pM (nF (k:Nat)),wX (sU F j).2.2];exact KG cR gC
  rw[<- M8 s,<- e]at this;exact this
 dsimp only;refine wW (jX t) (λq a=>⟨u,gL,gL,_,gL,_,gL,fs,an,g,f,d,(f:Nat),m,by rw[X,qv],w,hd,hm,λt' ni=>by obtain rfl:t'=t:=LL d ni E;exact⟨P8 _,a⟩⟩) ?_;have C:=j.1;obtain⟨uw,ul,u3⟩:=BF F C;have b1:dO.length=1:=by decide +kernel
 have us:=mP (n:=9) λx M=>(uw x M).1.2.len;have cl:(tx (r.1.map sI)).length<=40:=bK (yG dO _) (by rw[b1];lia);have cn:r.1.map sI≠[]:=λz=>by have:=F.n1;rw[z]at ul;simp at ul;lia
 refine qX (cL (.str (tx (r.1.map sI))) (λq a=>⟨dO,gL,?_⟩) ?_)
 ·dsimp only[vJ,DN];refine iR (ts:=r.1) (λR h=>⟨_,gL,_,gL,_,gL,h⟩) (λx=>.str (sI x)) (by rw[aC]at ul;lia) (λx q M a=>⟨_,gL,x,gL,qF F C x M,a⟩) ?_;exact⟨r.1.map sI,by rw[bJ];rfl,by rw[b1];lia,a⟩
 dsimp only[DE];have same:∀{ws:List â}{z:â},((ws=[("tree":â)]/\z=jY t)\/(ws=[("rows":â)]/\z=rQ g)\/∃(w:â)(N:List D),fT fs (.tuple N)=wx/\ws=w::N.map sI/\(w="judge"/\z=mF fs t N\/w="why"/\z=G5 fs t N))->Q ⟨mE g,(f:Nat)⟩ (.tuple [.str (tx ws),.str ("told "++z)]):=λhz=>h _ _ _ _ (.inr (.inr (.inr ⟨gL,gL,hz⟩)));refine rJ (decide (p=6)) (λq a=>⟨_,gL,a⟩) (λ_=>?_) λ_=>zn ?_
 ·have kn:t.kn<=15:=by
   have:=t.kn_dep;have:2^t.dep<=2^4:=fH cS eH;lia
  have sl:=pN F tr;exact⟨_,gL,fs,an,t,gL,F,tr,eH,eH,by rw[l.2.2.2.2.1];lia,gJ,same (.inl ⟨gL,gL⟩)⟩
 dsimp only;refine rJ (decide (p=7)) (λq a=>⟨_,gL,a⟩) (λ_=>?_) λ_=>zn ?_
 ·have sl:=BZ F w.ok (λe he=>by have:=w.lt e he;lia) eH;exact⟨u,gL,gL,_,gL,fs,an,g,f,_,_,_,gL,w,by rw[l.2.2.2.2.1];lia,gJ,gL,same (.inr (.inl ⟨gL,gL⟩))⟩
 dsimp only;obtain⟨_,wl,al,sp⟩:=RK F C tr eH
 have H:∀{w z:â},(w="judge"/\z=mF fs t r.1\/w="why"/\z=G5 fs t r.1)->∀x:â,x=w++" "->Q ⟨mE g,(f:Nat)⟩ (.tuple [.str (x++tx (r.1.map sI)),.str ("told "++z)]):=λ{w z} hz x M=>by
  rw[KG M cn];exact same (.inr (.inr ⟨w,r.1,C,gL,hz⟩))
 refine rJ (decide (p=8)) (λq a=>⟨_,gL,a⟩) (λ_=>?_) λ_=>zn ?_
 ·refine⟨_,gL,by rw[l.2.2.2.2.2.1];lia,_,gL,_,gL,_,gL,_,gL,fs,an,t,r.1,gL,F,tr,C,eH,_,gL,cR,eH,?_⟩;refine⟨.str (mF fs t r.1),by rw[sp];exact Yg _ _,by rw[l.2.2.2.2.1];lia,gJ,H (.inl ⟨gL,gL⟩) _ cR⟩
 dsimp only;exact⟨_,gL,by rw[l.2.2.2.2.2.2];lia,_,gL,_,gL,_,gL,_,gL,fs,an,t,r.1,gL,F,tr,C,eH,by rw[l.2.2.2.2.1];lia,gJ,H (.inr ⟨gL,gL⟩) _ cR⟩
set_option maxHeartbeats 40000000 in
def Xh:Ft P w base T.D_law 36 E1:=by
 refine qC T.D_law.F Wx λg nd ds Q h=>?_;obtain⟨ns,rfl,y,h⟩:=h;refine⟨_,(aW (ss 1 nd (VU (cF (Oc T) g (aA (aD 0) aF))))
 (aW (ss 2 nd (cd (Od T) g (aA (aD 1) (aA aN (aA aN aF)))))
 (aC2 (i:=3) (cd (jI T) g (aA (aD 1) (aA aN aF))) (cE bE dE aN (cd (jI T) g (aA (aD 1) (aA aN aF)))) (λh3 h4=>mD (i:=3) nd gL (by first | exact g4 gL | exact f7 gL) (aD9 (AN iU NA (AN iU nE (AN iU h3 (AN iU h4 aD1)))) gL gL (by intro z;cases z) gJ))
 (MW (i:=4) (dR (jJ (aD 2)) (dR (mW 3 (kN g.u1 (aD 3) iU)) (dR (mW 3 (kN g.u1 (aD 3) iU)) lB))) (λh=>mD (i:=4) nd gL (by first | exact g4 gL | exact f7 gL) (K0 T.K_Desk (Cy T) (g.mono cS) gL T.x_Desk T.D_0.d .nil gZ h))
 (MW (i:=5) (dR (jJ (aD 2)) (dR (kY uM (mW 3 (kN g.u1 (aD 3) iU))) (dR (kY uM (mW 3 (kN g.u1 (aD 3) iU))) lB))) (λh=>mD (i:=5) nd gL (by first | exact g4 gL | exact f7 gL) (K0 T.K_Desk (Cy T) (g.mono cS) gL T.x_Desk T.D_0.d .nil gZ h))
 (cD (jQ (Ha (Gn (yW IL U9 (kY uM (kY MX (rC (k:=0) (f:=(qT mg "_law_said")) (fd:=(xV K (qT mg "_law_said"))) (pn:=[]) (dR (jJ (aD 4)) (dR (jJ bI) lB)) (λh=>kE (CZ T) (g.mono cS) gL T.D_69.m T.D_69.k T.D_69.d .nil gZ h)))) (jJ bI)) (XA (yW IL U9 (kY uM (kY MX (rC (k:=0) (f:=(qT mg "_law_said")) (fd:=(xV K (qT mg "_law_said"))) (pn:=[]) (dR (jJ (aD 4)) (dR (jJ bI) lB)) (λh=>kE (CZ T) (g.mono cS) gL T.D_69.m T.D_69.k T.D_69.d .nil gZ h)))) (jJ (cE bE dE bI (bP aY cI (bP aY cI (aD 2) aN) aN)))))))
 (dI (iO (jJ GD)))
 iB)
 (cD (Yb (tS (aA (cE bE dE aN (cd (jI T) g (aA (aD 1) (aA aN aF)))) aF) (λh=>rE gL T.b_range h)) (eB (pn 6 nd))
 (cD (jQ (rK (cN fR jN (cd (jI T) g (aA (aD 1) (aA aN aF))) aN))
 (cD (XX (kY uM (kY uM (mW 3 (cd (Pj T) g (aA (aD 1) (aA (aD 2) (aA (aD 3) aF))))))) (pU (qP gL (fB (pn 7 nd) (fB (pn 8 nd) nO)))) (λH hg=>B1 H hg))
 (dI (jQ (Ha (Gn (yW IL U9 (kY uM (kY MX (rC (k:=0) (f:=(qT mg "_law_said")) (fd:=(xV K (qT mg "_law_said"))) (pn:=[]) (dR (jJ (aD 4)) (dR (jJ (aD 7)) lB)) (λh=>kE (CZ T) (g.mono cS) gL T.D_69.m T.D_69.k T.D_69.d .nil gZ h)))) (jJ (aD 8))) (XA (yW IL U9 (kY uM (kY MX (rC (k:=0) (f:=(qT mg "_law_said")) (fd:=(xV K (qT mg "_law_said"))) (pn:=[]) (dR (jJ (aD 4)) (dR (jJ bI) lB)) (λh=>kE (CZ T) (g.mono cS) gL T.D_69.m T.D_69.k T.D_69.d .nil gZ h)))) (kY uM (kY uM (mW 3 (cE bE dE bI (cd (ZF T) g (aA (aD 3) aF))))))))))
 (dI (iO (jJ GD)))
 iB)))
 iB)
 (cD (XX (kY uM (kY uM (rC (k:=0) (f:=(qT mg "_law_text")) (fd:=(xV K (qT mg "_law_text"))) (pn:=[]) (dR (jJ (aD 1)) (dR (jJ (aD 2)) (dR (jJ (aD 3)) lB))) (λh=>kE (Pk T) (g.mono cS) gL T.D_73.m T.D_73.k T.D_73.d .nil gZ h)))) (pU (qP gL (fB (pn 7 nd) (fB (pn 9 nd) nO)))) (λH hg=>B1 H hg))
 (dI (jQ (yW IL U9 (kY uM (kY MX (rC (k:=0) (f:=(qT mg "_law_said")) (fd:=(xV K (qT mg "_law_said"))) (pn:=[]) (dR (jJ (aD 4)) (dR (jJ (aD 7)) lB)) (λh=>kE (CZ T) (g.mono cS) gL T.D_69.m T.D_69.k T.D_69.d .nil gZ h)))) (jJ (aD 9)))
 (dI (iO (jJ GD)))
 iB)))) (λhi hg hb=>YZ r8 gL hi hg hb))
 (cD (jQ (yW IL U9 (kY uM (kY MX (rC (k:=0) (f:=(qT mg "_law_said")) (fd:=(xV K (qT mg "_law_said"))) (pn:=[]) (dR (jJ (aD 4)) (dR (jJ bI) lB)) (λh=>kE (CZ T) (g.mono cS) gL T.D_69.m T.D_69.k T.D_69.d .nil gZ h)))) (kY uM (kY uM (mW 3 (cE bE dE bI (cd (Gx T) g (aA (cd (Gz T) g (aA (aD 2) (aA (aD 3) aF))) aF)))))))
 (dI (iO (jJ GD)))
 iB)
 (dI (iO (We (Ig fR jN (kY uM (kY MX (rC (k:=0) (f:=(qT mg "_law_said")) (fd:=(xV K (qT mg "_law_said"))) (pn:=[]) (dR (jJ (aD 4)) (dR (jJ bI) lB)) (λh=>kE (CZ T) (g.mono cS) gL T.D_69.m T.D_69.k T.D_69.d .nil gZ h)))) (kY uM (kY uM (mW 3 (cE bE dE bI (cd (ZF T) g (aA (aD 3) aF))))))) (Wh (kY MX (Ig fR jN (rC (k:=0) (f:=(qT mg "_law_said")) (fd:=(xV K (qT mg "_law_said"))) (pn:=[]) (dR (jJ (aD 5)) (dR (jJ bI) lB)) (λh=>kE (CZ T) (g.mono cS) gL T.D_69.m T.D_69.k T.D_69.d .nil gZ h)) (jJ bI))))))))))))))),?_⟩
 show qO _ _ _ [.val (.list (ns.map bW)),.un,.un,.un,.un,.un,.un,.un,.un,.un];refine dP (λd=>d=jP ns) (λq o=>⟨_,gL,ns,gL,y,λc hc=>⟨ns,c,gL,hc,o _ gL⟩⟩) ?_;rintro _ rfl;refine dP (λd=>∃fs an,eW fs an/\d=gM fs an) (λq o=>⟨_,gL,ns,3,4,gL,y,cS,cS,cS,cS,λfs an F _ _=>o _ ⟨fs,an,F,gL⟩⟩) ?_;rintro _ ⟨fs,an,F,rfl⟩;have a2:=F.a2;obtain⟨v,E⟩:∃v,an[0]?=wz v:=⟨_,aL eH⟩;refine⟨_,gL,ns,5,gL,y,cS,cS,λdp p0 p5=>⟨dp,gL,_,gL,ns,3,gL,y,cS,cS,λfw f0 f3=>⟨1+fw,gL,λS l n=>?_⟩⟩⟩;obtain⟨d,rfl⟩:∃d:Nat,dp=(d:Nat):=⟨dp.toNat,eH⟩;have d4:d<=4:=by lia
 have m1:(1:Int)<=1+fw:=by lia
 generalize (1+fw:Int)=m at *
 refine⟨_,gL,S,gL,gL,_,gL,_,_,_,_,_,gL,gL,gL,S,gL,gL,_,gL,_,_,_,_,_,gL,gL,gL,gM fs an,S.dp,S.fw,gL,fs,an,d,m,by rw[l,n],F,eH,λu oq a om X mo=>?_⟩;refine⟨_,gL,vL S,⟨_,gL⟩,S,gL,gL,_,gL,_,_,_,_,_,gL,gL,gL,vL S,⟨_,gL⟩,S,gL,gL,_,gL,_,_,_,_,_,gL,gL,gL,gM fs an,S.dp,S.fw,gL,fs,an,d,m,by rw[l,n],F,eH,λR tm C qq mf mr=>?_⟩;have w0:OL fs an [] 0:=⟨F,(λr g=>by cases g),MP.nil,(λe H=>by cases H),aP _,dA _⟩;have W0:UC fs an d m a [] u 0 ⟨[],0,jX u⟩:=⟨w0,om,X.trans l,mo.trans n,d4,gL,gL,oq,gL⟩;have W2:UC fs an d m C [] R 0 ⟨[],0,jX R⟩:=⟨w0,qq,mf.trans l,mr.trans n,d4,gL,gL,tm,gL⟩;have e5:("told ":â).length=5/\("told ":â)++"none"="told none":=by decide +kernel
 have ow:rQ []="none":=b7 gL;have wr:Wd ["rows"]:=XD gC;have wt:Wd ["tree"]:=XD gC
 have ox:∀{j:List (Nat×Rw)}{f:Nat},OL fs an j f->("told ":â).length+(rQ j).length<=100000:=λw=>by
  have:=BZ F w.ok (λe H=>by have:=w.lt e H;have:=w.f50;lia) (by have:=w.few;have:=w.f50;lia);lia
 obtain⟨b0,ql,qe⟩:=Vj oq;obtain rfl:v=b0:=c7 (E.symm.trans ql);have wj:=(rT (F.an.2.1 _ (aZ E))).2.2
 have es:("told say ":â)++v="told "++jY u:=by
  rw[qe,show("told say ":â)="told "++("say"++" ") by decide +kernel,pM,show("say":â)++" "++v=jY (.say v)from B8 "say" v []]
 have e9:("told say ":â).length=9:=by decide +kernel
 show BO (F:=hH (hH IC (mM A)) (mM A)) _ _ _ _ _ [.val (.list (ns.map bW)),.val (jP ns),.val (gM fs an),.val (vL S),.val (MI G a),.val (MI G C),.un,.un,.un,.un];refine nA (λq o=>⟨.tuple [vL S,lA a],⟨_,gL⟩,lA a,⟨_,gL⟩,_,gL,fs,an,d,m,a,[],u,0,["rows"],gL,gL,W0,wr,.inr (.inr (.inl ⟨_,gL,.inr ⟨gL,λ_=>?_⟩⟩))⟩) ?_
 ·rw[ow,e5.2];show(if(!decide (("told none":â)="told none"))=wx then q ((⟨[],0⟩,⟨[],0,jX u⟩),⟨[],0,jX R⟩) wx else _);rw[a9 gL,a8 cS];refine⟨.tuple [vL S,lA a],⟨_,gL⟩,lA a,⟨_,gL⟩,_,gL,fs,an,d,m,a,[],u,0,["tree"],gL,gL,W0,wt,.inr (.inr (.inl ⟨_,gL,.inl ⟨gL,λ_=>?_⟩⟩))⟩;refine⟨_,gL,_,gL,.str v,L2.eR (by rw[aO,E];rfl),by rw[e9];lia,?_⟩;rw[es];show q _ (!decide (("told ":â)++jY u="told "++jY u));rw[a9 rfl];exact o
 refine(show BO (F:=hH (hH IC (mM A)) (mM A)) (Dm _ _ _) _ _ _ _ _ from⟨_,gL,ns,17,gL,y,cS,cS,λr r0 wd=>⟨4+r,gL,eH,eH,λi B σ=>∃(j:List (Nat×Rw))(t:Tr)(f:Nat)(nb:HF)(s6 M N s9:Sl),σ=[.val (.list (ns.map bW)),.val (jP ns),.val (gM fs an),.val (vL S),.val (MI G a),.val (MI G C),s6,M,N,s9]/\B=((⟨mE j,(f:Nat)⟩,nb),⟨[],0,jX R⟩)/\UC fs an d m a j t f nb/\f<=i,⟨[],u,0,_,_,_,_,_,gL,gL,W0,dA _⟩,λi B x v4 hx hP=>?_,λB v4 hP=>?_⟩⟩)
 ·obtain⟨j,t,f,nb,s6,M,N,s9,rfl,rfl,W,qt⟩:=hP;have qz:i<(4+r).toNat:=by have:=(aJ.mp hx).1;rwa [kG]at this
  have L:=ox W.rw;show BO (F:=hH (hH IC (mM A)) (mM A)) _ _ _ _ _ [.val (.list (ns.map bW)),.val (jP ns),.val (gM fs an),.val (vL S),.val (MI G a),.val (MI G C),.val x,M,N,s9];refine Xw (λB σ=>B=((⟨mE j,(f:Nat)⟩,nb),⟨[],0,jX R⟩)/\∃M N:Sl,σ=[.val (.list (ns.map bW)),.val (jP ns),.val (gM fs an),.val (vL S),.val (MI G a),.val (MI G C),.val x,M,N,s9]) (λq o=>⟨_,gL,ns,8,gL,y,cS,cS,λr _ _=>o _⟩) (λpy hD=>?_) ⟨gL,_,_,gL⟩ ?_
  ·refine⟨.tuple [vL S,lA a],⟨_,gL⟩,vL S,⟨_,gL⟩,S,gL,gL,_,gL,_,gL,_,gL,ns,fs,an,j,f,S.dp,S.fw,gL,y,W.rw,W.rw.f50,λws b hR hW=>⟨gL,_,_,gL,?_⟩⟩;dsimp only[DE];refine KB ww (λq o=>?_) (λz=>by cases z) λ_=>zn (hD _ _ ⟨gL,_,_,gL⟩);refine⟨.tuple [vL S,lA a],⟨_,gL⟩,lA a,⟨_,gL⟩,_,gL,_,gL,fs,an,d,m,a,j,t,f,ws,gL,gL,W,hW,.inl ⟨b,hR,_,gL,?_⟩⟩;show(if(!decide (yg b=yg b))=wx then _ else _);rw[a9 gL,a8 cS];refine⟨.tuple [vL S,lA a],⟨_,gL⟩,lA a,⟨_,gL⟩,_,gL,fs,an,d,m,a,j,t,f,["rows"],gL,gL,W,wr,.inr (.inr (.inl ⟨_,gL,.inr ⟨gL,λ_=>?_⟩⟩))⟩;refine⟨.tuple [vL S,lA a],⟨_,gL⟩,vL S,⟨_,gL⟩,S,gL,gL,_,gL,fs,an,j,f,_,_,_,gL,W.rw,L,gL,?_⟩;show q _ (!decide (("told ":â)++rQ j="told "++rQ j));rw[a9 rfl];exact o
  rintro _ _ ⟨rfl,M,N,rfl⟩;refine⟨.tuple [vL S,lA a],⟨_,gL⟩,vL S,⟨_,gL⟩,_,gL,_,gL,_,gL,ns,fs,an,d,m,S,j,t,f,gL,gL,y,W.rw,gL,l,n,d4,m1,eH,W.gr,λws z J f' hx=>⟨_,_,gL,?_⟩⟩;dsimp only[DE];obtain⟨hW,vk,hS⟩:=hx.ok W eH;refine Xv (λB=>∃p s,B=((⟨mE J,(f':Nat)⟩,p),⟨[],0,jX R⟩)/\UC fs an d m a J s f' p) (λq o=>?_) λB hm=>?_
  ·refine⟨.tuple [vL S,lA a],⟨_,gL⟩,lA a,⟨_,gL⟩,_,gL,_,gL,fs,an,d,m,a,j,t,f,ws,gL,gL,W,hW,.inr (hS _ λp s W' _=>⟨_,gL,?_⟩)⟩;show q _ (!decide (("told ":â)++z="told "++z));rw[a9 rfl];exact o _ ⟨p,s,gL,W'⟩
  ·obtain⟨p,s,rfl,W'⟩:=hm;exact zn ⟨J,s,f',p,_,_,_,_,gL,gL,W',eH⟩
 ·obtain⟨j,t,f,nb,s6,M,N,s9,rfl,rfl,W,qt⟩:=hP;have L:=ox W.rw;obtain⟨tr,dep⟩:=W.tr
  have kn:t.kn<=15:=by
   have:=t.kn_dep;have:2^t.dep<=2^4:=fH cS dep;lia
  have sl:=pN F tr;dsimp only;refine nA (λq o=>⟨.tuple [vL S,lA a],⟨_,gL⟩,lA a,⟨_,gL⟩,_,gL,fs,an,d,m,a,j,t,f,["tree"],gL,gL,W,wt,.inr (.inr (.inl ⟨_,gL,.inl ⟨gL,λ_=>?_⟩⟩))⟩) ?_
  ·refine⟨.tuple [vL S,lA a],⟨_,gL⟩,vL S,⟨_,gL⟩,S,gL,gL,_,gL,_,gL,fs,an,j,f,d,(f:Nat),m,by rw[l,n];rfl,W.rw,d4,m1,λs ni=>?_⟩;obtain rfl:s=t:=LL d ni W.gr;refine⟨fs,an,s,gL,F,tr,eH,eH,by rw[e5.1];lia,gL,?_⟩;show q _ (!decide (("told ":â)++jY s="told "++jY s));rw[a9 rfl];exact o
  refine⟨.tuple [vL S,lA a],⟨_,gL⟩,lA a,⟨_,gL⟩,_,gL,fs,an,d,m,a,j,t,f,["rows"],gL,gL,W,wr,.inr (.inr (.inl ⟨_,gL,.inr ⟨gL,λ_=>?_⟩⟩))⟩;refine⟨.tuple [vL S,lA a],⟨_,gL⟩,vL S,⟨_,gL⟩,S,gL,gL,_,gL,fs,an,j,f,_,_,_,gL,W.rw,L,gL,decide (("told ":â)++rQ j="told "++rQ j),gL,?_⟩;rw[a9 gL,b7 rfl];refine⟨lA C,⟨_,gL⟩,_,gL,fs,an,d,m,C,[],R,0,["rows"],gL,gL,W2,wr,.inr (.inr (.inl ⟨_,gL,.inr ⟨gL,λ_=>?_⟩⟩))⟩;rw[ow,e5.2];show Q (.bool (decide (("told none":â)="told none")));rw[a9 rfl];exact h
def Uy:Ft P w base T.D_law 36 E1:=Xh T
def aLm{l:br}{fa:à}(a:mg "law"=wz (.ref fa)):∃b:iW,(∀s(v:á),BindsTo s b ⟨[v],[]⟩ [("_law_script",v)])/\∀base:ç,K.In base->base.Ns iM mg->nG l.prog w K mg base sC 36 fa b ["_law_script"] (mS K E1):=by
 have e:=a.symm.trans T.D_law.m;cases e;refine⟨(xV K (qT mg "law")),?_,λbase _ _=>Uy T⟩;refine ġ T.D_law.F.ex λ_ _ _ _ _ _ _ _ _ e _=>?_;rw[e]
 exactλs v=>.of_eq gL
omit T
def ez{K:aH}{C a N:à}{nm y:â}{bs sub}{hd g:Bool}(l:K.lookup C=wz (excClassObj nm y C N bs (.ref a::[.type "ValueError",.type "Exception",.type "BaseException",.type "object"]) hd sn sub g col dd k0 k1 k2 k3 k5 "ValueError.__new__"))
   {c:Array fv} {h:Nat} {os} (q:K.lookup N=wz ⟨oc,od,.dict c h,os⟩) (r:(c.toList.all λe=>match e.key with | .str _ _=>wx | _=>ww)=wx) (u:mY K N "__init__"=wz wy)
   {cd:ClassData}  (o:K.lookup a=wz ⟨c0,d0,.cls cd,sl⟩)  {b:Array fv} {x:Nat}  (p:K.lookup cd.ns=wz ⟨oj,dj,.dict b x,sj⟩) (z:(b.toList.all λe=>match e.key with | .str _ _=>wx | _=>ww)=wx) (v:mY K cd.ns "__init__"=wz wy)
   (k:nM K C=wz cc) (n:oY K (.ref C)=wz (.type "type")) (m:dS K C (.ref C)=wz wx) (j:eK K (.ref C) "__getattribute__"=wz (wz (.builtin "BaseException.__getattribute__"))) (fa:eK K (.ref C) "__getattr__"=wz wy) (i:eK K (.ref C) "__class__"=wz (wz (.builtin "object.__class__")))
  (s:dS K C (.type "object")=wz wx) (f:dS K C (.type "BaseException")=wz wx) (t:dS K C (.type "ValueError")=wz wx) (B:dS K C (.type "int")=wz ww) (E:dS K C (.type "str")=wz ww) (F:dS K C (.type "list")=wz ww) (H:dS K C (.type "tuple")=wz ww) (J:dS K C (.type "bool")=wz ww):Ez K C:=
 ⟨⟨⟨j,fa,i,s,f⟩,λT d=>by simp only[aQ,cP,i6]at d;(rcases d with rfl | rfl | rfl | rfl | rfl<;>first | exact B5 Vy B | exact B5 Vz E | exact B5 Zd F | exact B5 aAm H | exact B5 Zc J)⟩,⟨_,_,_,_,_,_,_,_,_,_,_,_,_,_,_,_,_,_,_,_,l,SV q r,u,o,SV p z,v⟩,Zq k n f m,B5 G9 t⟩
def kA{K}{c x:à}(a:nM K x=wz cc)(d:oY K (.ref x)=wz (.type "type"))(q:dS K c (.ref x)=wz ww)(b:dS K x (.ref x)=wz wx)(r:lD K (.ref c) l=wz ww):lD K (.ref c) (.ref x::l)=wz false:=by simp only[lD,Vx a d q b,r]
def aAl{t n:Nat}(l:K.lookup t=wz ⟨.type "tuple",wy,.seq #[.str "yes" k0,.str "no" k1] n,s⟩):xt K t ["yes","no"]:=⟨_,_,_,l,gL,gL,gL,(by show 2<=bN;decide),.cons ⟨_,gL⟩ (.cons ⟨_,gL⟩ (.nil))⟩
def DJ{t n:Nat}(l:K.lookup t=wz ⟨.type "tuple",wy,.seq #[.str "tree" k0,.str "rows" k1,.str "rules" k2,.str "steps" k3] n,s⟩):xt K t ["tree","rows","rules","steps"]:=⟨_,_,_,l,gL,gL,gL,(by show 4<=bN;decide),.cons ⟨_,gL⟩ (.cons ⟨_,gL⟩ (.cons ⟨_,gL⟩ (.cons ⟨_,gL⟩ (.nil))))⟩
def Z5:bF H (ê H []):=λb o e=>by
 unfold ê;rw[a8 gC];exact e
theorem JD{K}:∀ns:List Int,Reps K H (ns.map bW) (ns.map V.int)
|[]=>.nil
|n::ns=>.cons (.int n) (JD ns)
def aUt{l:br}{g:(â->Option á)->ç->Prop}{b:f8->ç->Prop}{d:DefRec}{K:Params->aH}(t:l.most=wz 63)(c:d.params.defaults=[])
  (m:∀(w:f8)(h:ç),b w h->(K w.params).In h) (j:∀(w:f8)(h:ç),b w h->∀P,tabA=wz P->h.get? P=wz { cls:=.none,data:=.fields #[] }/\(K w.params).lookup P=wy/\az h P)
  (F:∀(w:f8)(mg:â->Option á)(fa:à)(h:ç),(K w.params).In h->h.Ns iM mg->mg d.name=wz (.ref fa) ->
   ∃e:iW,(∀s(u:á),BindsTo s e ⟨[u],[]⟩ [("_law_script",u)])/\∀base:ç,(K w.params).In base->base.Ns iM mg->nG l.prog w (K w.params) mg base sC 36 fa e ["_law_script"] (mS (K w.params) E1)) :
  aCl q loose g b l.row.toRowW d [] (λf vs=>ff f vs):=
 L2.aCt (n:=63) (k:=36) (x:="_law_script") (CX:=λ_=>sC) (sp:=λw=>mS (K w.params) E1) t cS c ⟨gL,cS,cS,gL⟩ m j F
  (λw H a ns o _ i=>⟨[],[.list (ns.map bW)],λd=>d=.bool wx,λp y=>by simp at y,.cons (.list (L2.bF.seq Z5 i) (JD ns)) .nil,⟨ns,gL,o,gL⟩,λd v B _ r q=>by subst q;cases r;rfl⟩) λ_ _ _ _ _ z=>z
end
end K72
open L2
namespace PySem.W.Fast
theorem mt:True:=⟨⟩
def tw5512047178254085444:=mt
def tw16400164128834990665:=mt
def tw6603377857355178596:=mt
def tw5740485072866909341:=mt
def tw2550334634886216140:=mt
def tw13224535696057570124:=mt
def tw8545166831732269464:=mt
def tw13893407033673432334:=mt
def tw15312367649587795901:=mt
def tw11866858220154665422:=mt
def tw939300958602731064:=mt
def tw11964155367431714056:=mt
def tw6918685792320187914:=mt
def tw13084407474113697699:=mt
def tw7203585914456920450:=mt
def tw16284689619038556105:=mt
def tw18126486072116771809:=mt
def tw552852707324000651:=mt
def tw4785887862331760931:=mt
def tw15392627572437074529:=mt
def tw731289743729784755:=mt
def tw2650575516009135253:=mt
def tw13238594249330515833:=mt
def tw2568363591850762268:=mt
def tw1652922542364447575:=mt
def tw1612293675632171324:=mt
def tw502513762512989428:=mt
def tw13323760076354759902:=mt
def tw330946708434922627:=mt
def tw8630903731524731824:=mt
def tw9077563396580310120:=mt
def tw6205758646724375918:=mt
def tw9506798268460781206:=mt
def tw9356791509132099546:=mt
def tw5602541591265890555:=mt
def tw6520223237591300800:=mt
def tw15800825916954735441:=mt
def tw3495413073593770286:=mt
def tw3967779574076677789:=mt
def tw12627676072907220773:=mt
def tw13398027657336957015:=mt
def tw13448734887651482570:=mt
def tw15591822471296485885:=mt
def tw4458336963212609266:=mt
def tw8543320505534313359:=mt
def tw7709677853885651801:=mt
def tw8873572345936120781:=mt
def tw151346076064061070:=mt
def tw8659031050209926981:=mt
def tw16725703515235224076:=mt
def tw6112079762317016148:=mt
def tw10910736038207804613:=mt
def tw8404411384568155245:=mt
def tw2381291516302460296:=mt
def tw215774117189518706:=mt
def tw1438349480233457261:=mt
def tw10871024630606597568:=mt
def tw14257198409323153214:=mt
def tw12112461604220573562:=mt
def tw14736473597028796892:=mt
def tw11164789813812885773:=mt
def tw14178269080767071770:=mt
def tw2911190435777185729:=mt
def tw1027411904559173067:=mt
def tw5891938902520358556:=mt
def tw1638027470154500660:=mt
def tw5369614476913010442:=mt
def tw16528884243902816672:=mt
def tw3145205242032379733:=mt
def tw14212834363261368940:=mt
def tw9199911143858474302:=mt
def tw10798026647567038365:=mt
def tw5896932780194856234:=mt
def tw12679123058789105451:=mt
def tw14915508264037089752:=mt
def tw11063041293242220915:=mt
def tw469282720804804035:=mt
def tw12774854436264367117:=mt
def tw2877504763917938858:=mt
def tw4347810195255477874:=mt
def tw2553305197089456803:=mt
def tw5502463305496981295:=mt
def tw1411334311737828221:=mt
def tw16469203579629609688:=mt
def tw2315637149134564794:=mt
def tw15665031363042496202:=mt
def tw10393072315666667997:=mt
def tw4497435817575185571:=mt
def tw1022067091965111486:=mt
def tw4447049606934097486:=mt
def tw3484383505367275715:=mt
def tw16398819878869395113:=mt
def tw8874696327419569277:=mt
def tw3853289166346092664:=mt
def tw17012075313493616367:=mt
def tw13035000739696857224:=mt
def tw3031863635149124520:=mt
def tw16125155487393909039:=mt
def tw9507486108540224258:=mt
def tw12219358932672177503:=mt
def tw7242254904046077883:=mt
def tw17516743208861962877:=mt
def tw4746945493408798269:=mt
def tw14084587974488085893:=mt
def tw5964100884907061960:=mt
def tw15667495788533122700:=mt
def tw12095061809132799252:=mt
def tw2027719767339854531:=mt
def tw7285400215963549455:=mt
def tw5249848416171088622:=mt
def tw9437771679799843950:=mt
def tw8623306436827880236:=mt
def tw12675507835429912809:=mt
def tw4433078979202379294:=mt
def tw7286231359658155305:=mt
def tw8761824290221786195:=mt
def tw8889816994914613819:=mt
def tw16560437682131078780:=mt
def tw4378391975652024244:=mt
def tw3472733744148535092:=mt
def tw17226029641940396896:=mt
def tw10642419621521743547:=mt
def tw16005738370897582522:=mt
def tw758048589997536274:=mt
def tw4196389111519364135:=mt
def tw2823747860805188576:=mt
def tw5932025632427817388:=mt
def tw14956852501134920258:=mt
def tw6826583105229660445:=mt
def tw17070474492706768014:=mt
def tw13802001590932787324:=mt
def tw17118044098526226081:=mt
def tw6141955407910725083:=mt
def tw2062322542436796505:=mt
def tw1570002407005549782:=mt
def tw3305681767471476986:=mt
def tw13991668939829258740:=mt
def tw7621365102131703026:=mt
def tw15200169817339433369:=mt
def tw404796542122256789:=mt
def tw7359446033038958071:=mt
def tw273270588069234806:=mt
def tw3726751931555391615:=mt
def tw3429856007603413048:=mt
def tw2200796015251256096:=mt
def tw2628862631346485502:=mt
def tw401939765286582576:=mt
def tw12702922111493084483:=mt
def tw2021968938531500982:=mt
def tw18212288879432091627:=mt
def tw17256504896549641180:=mt
def tw7324369677134920833:=mt
def tw4080587241516865146:=mt
def tw8158253376279432029:=mt
def tw3122376765592645803:=mt
def tw6409047163086334059:=mt
def tw12054783702402816895:=mt
def tw12449008449109277594:=mt
def tw13612284264302783870:=mt
def tw17638316027409796088:=mt
def tw10495585435626665143:=mt
def tw6822376514015429892:=mt
def tw4433957755185938662:=mt
def tw15701675333209556666:=mt
def tw9936728310384943049:=mt
def tw7881457394915617818:=mt
def tw826441131240566057:=mt
def tw10515585248123593834:=mt
def tw12634124184155427007:=mt
def tw702196135446076242:=mt
def tw17685406047044862210:=mt
def tw14136122085478551870:=mt
def tw4438508277512827388:=mt
def tw16280309169605887401:=mt
def tw9181172341981312580:=mt
def tw4980588690563584965:=mt
def tw12182520573192408471:=mt
def tw4445257306983661887:=mt
def tw7883719274391176607:=mt
def tw17023965847856151212:=mt
def tw6326420565767964444:=mt
def tw6298510739577796942:=mt
def tw13250215988969656367:=mt
def tw4452095653560060443:=mt
def tw13765469194327188162:=mt
def tw11289466992633905365:=mt
def tw1557227886837594167:=mt
def tw3893911626061362447:=mt
def tw4192573124666407732:=mt
def tw16395525376234690127:=mt
def tw7823155075749897248:=mt
def tw15594553034828009743:=mt
def tw12152115106690474410:=mt
def tw963269496221065162:=mt
def tw6467640831907055335:=mt
def tw7450869599590744608:=mt
def tw14250691260099696919:=mt
def tw16051023392456574358:=mt
def tw11657621446146574772:=mt
def tw8431845472233810455:=mt
def tw13004970556043409976:=mt
def tw12760164749032848833:=mt
def tw2493663572506638782:=mt
def tw1708715041651634725:=mt
def tw11778487451161428497:=mt
def tw413462582890413261:=mt
def tw15205877435543863549:=mt
def tw8651226767825523774:=mt
def tw6542087091941342787:=mt
def tw16581687987316709913:=mt
def tw7091005472848581599:=mt
def tw5890393286154817050:=mt
def tw1355203700343724584:=mt
def tw4834571335455398335:=mt
def tw15462113143738612885:=mt
def tw12519969445791588805:=mt
def tw16501429665095830196:=mt
def tw15150840800359306946:=mt
def tw11644485392582563645:=mt
def tw4985011215701623342:=mt
def tw2949395308265741616:=mt
def tw3622465849703129108:=mt
def tw1983339856785615902:=mt
def tw11491924966561751012:=mt
def tw6047687051941316820:=mt
def tw11721216095889446949:=mt
def tw2391331065539401226:=mt
def tw5899232323533654216:=mt
def tw12386395140244298469:=mt
def tw10732253532609494737:=mt
def tw12844871460553376973:=mt
def tw3951281935699089802:=mt
def tw10971248808532033951:=mt
def tw4936905674546946169:=mt
def tw14927009330314382326:=mt
def tw5864399333271607204:=mt
def tw14737156033283440937:=mt
def tw3896104395537241977:=mt
def tw8667028151735278074:=mt
def tw14363551430911405783:=mt
def tw3694570923211341980:=mt
def tw15991142821135710021:=mt
def tw2735634928551701621:=mt
def tw17279945837031569623:=mt
def tw3678040929103718565:=mt
def tw16162979690919841977:=mt
def tw2136099422635715633:=mt
def tw10184194706745831616:=mt
def tw13671636806081166344:=mt
def tw14227131333125728095:=mt
def tw1301068424008118751:=mt
def tw3858376829579024774:=mt
def tw13836379501594761238:=mt
def tw7022845917705875714:=mt
def tw1425802162241397833:=mt
def tw7906478967833779551:=mt
def tw2357561936787988178:=mt
def tw17711835455203060765:=mt
def tw3888531861219304090:=mt
def tw2584819002256793081:=mt
def tw14255072244395613405:=mt
def tw17775410832427093850:=mt
def tw1156243911832576479:=mt
def tw15757007084395605935:=mt
def tw1163188322594412590:=mt
def tw2878211836439967130:=mt
def tw10126347650018190335:=mt
def tw8323976690212798474:=mt
def tw5707871937276248200:=mt
def tw11665789299512931194:=mt
def tw2971795719093825692:=mt
def tw12397216050082357784:=mt
def tw17751315352111788548:=mt
def tw14399507606981430301:=mt
def tw11531888729472236253:=mt
def tw13543869287450732057:=mt
def tw8762364048557253450:=mt
def tw8933872059109981872:=mt
def tw3439810706503334699:=mt
def tw5548220500884766475:=mt
def tw6717184593078889711:=mt
def tw789064882790563860:=mt
def tw9753098887237649990:=mt
def tw3009306470649063380:=mt
def tw4990828948035734041:=mt
def tw14361886724047656459:=mt
def tw1604990838795652106:=mt
def tw15426751393758717581:=mt
def tw16691947803856469671:=mt
def tw6366841020392947687:=mt
def tw6422927831004594664:=mt
def tw17497032631963583395:=mt
def tw17471680221207327584:=mt
def tw9173225869224377818:=mt
def tw5814594481766430482:=mt
def tw9160101398288722950:=mt
def tw7639318825483710427:=mt
def tw17559470158307794288:=mt
def tw3329398885758066129:=mt
end PySem.W.Fast
open PySem PySem.W PyProof.Rows
set_option maxRecDepth 100000 in
set_option maxHeartbeats 0 in
theorem PySem.Challenge.cw_leafjudge_k72_whole_desk_beside_rows_holds : PySem.Challenge.rw_leafjudge_k72_whole_desk_beside_rows.Holds := by
  w_on; o_law; k_head; (case hw => w_witness2)
  k_fill
  refine K72.aUt (l := PySem.Challenge.rw_leafjudge_k72_whole_desk_beside_rows) rfl rfl (λw h Y => PySem.W.km_in_of Y) (λw h Y P e => ?T) ?F
  case T =>
    cases e
    exact ⟨km_tabs_of Y 266 (aM ..), by kernel_rfl, L2.aIz (codeHd_of_K (c := 268) (P := 266) (km_in_of Y) (by kernel_rfl)) (km_tabs_of Y 266 (aM ..))⟩
  case F =>
    intro w mg fa h KX G sq
    refine' K72.aLm ⟨⟨y9 KX G ?_, y9 KX G ?_, y9 KX G ?_, y9 KX G ?_, y9 KX G ?_, y9 KX G ?_, y9 KX G ?_, K72.ez .., K72.ez .., K72.kA (r := K72.kA (r := K72.kA (r := K72.kA (r := K72.kA (r := K72.kA (r := rfl) ..) ..) ..) ..) ..) .., K72.kA (r := K72.kA (r := K72.kA (r := K72.kA (r := K72.kA (r := K72.kA (r := rfl) ..) ..) ..) ..) ..) .., Yu ..⟩,y9 KX G ?_,⟨?_, ?_, ?_, ?_⟩,⟨?_, ?_, ?_, ?_⟩,na ?_,na ?_,na ?_,na ?_,na ?_,na ?_,⟨?_, ?_, ?_⟩,⟨?_, ?_, ?_⟩,⟨?_, ?_, ?_⟩,⟨?_, ?_, ?_⟩,⟨?_, ?_, ?_⟩,⟨?_, ?_, ?_⟩,⟨?_, ?_, ?_⟩,⟨?_, ?_, ?_⟩,y9 KX G ?_,⟨?_, ?_, ?_, ?_⟩,⟨?_, ?_, ?_, ?_⟩,na ?_,na ?_,⟨?_, ?_, ?_⟩,⟨?_, ?_, ?_⟩,⟨?_, ?_, ?_⟩,⟨?_, ?_, ?_⟩,dg xh ..,dg xW ..,dg xW ..,dg xW ..,dg Q2 ..,dg xh ..,dg xW ..,dg xW ..,dg Q2 ..,dg GP ..,dg GP ..,dg xW ..,dg xW ..,dg GP ..,df KX G Q2 ..,df KX G xW ..,df KX G xW ..,df KX G GP ..,df KX G xW ..,df KX G xW ..,df KX G xW ..,df KX G xW ..,df KX G xW ..,df KX G xW ..,df KX G xW ..,df KX G GP ..,df KX G GP ..,df KX G GP ..,df KX G GP ..,df KX G xh ..,df KX G xW ..,df KX G Q2 ..,df KX G xW ..,df KX G xh ..,df KX G xW ..,df KX G xW ..,df KX G Q2 ..,df KX G xW ..,df KX G Q2 ..,df KX G xh ..,df KX G GP ..,df KX G xW ..,df KX G Q2 ..,df KX G Q2 ..,df KX G Q2 ..,df KX G xW ..,df KX G xW ..,df KX G GP ..,df KX G GP ..,df KX G GP ..,df KX G GP ..,df KX G GP ..,df KX G GP ..,df KX G GP ..,df KX G xW ..,df KX G GP ..,df KX G xW ..,df KX G xW ..,df KX G Q2 ..,df KX G Q2 ..,df KX G GP ..,df KX G xW ..,df KX G xW ..,df KX G xh ..,df KX G xW ..,df KX G GP ..,df KX G GP ..,df KX G GP ..,df KX G Q2 ..,df KX G xW ..,df KX G Q2 ..,df KX G xW ..,df KX G Q2 ..,df KX G Q2 ..,df KX G xW ..,df KX G GP ..,df KX G GP ..,y9 KX G ?_,K72.aAl ?_,y9 KX G ?_,y9 KX G ?_,y9 KX G ?_,y9 KX G ?_,y9 KX G ?_,K72.DJ ?_,y9 KX G ?_,Wa KX G ?_ ?_ (Wb ?y_36 rfl),j3 KX G ?_,j3 KX G ?_,j3 KX G ?_,j3 KX G ?_,j3 KX G ?_,j3 KX G ?_,j3 KX G ?_,j3 KX G ?_,j3 KX G ?_,j3 KX G ?_,j3 KX G ?_,j3 KX G ?_,j3 KX G ?_,j3 KX G ?_⟩ sq
    (case y_36 => kernel_rfl)
    all_goals first | k_is | rfl | decide | with_unfolding_all rfl | skip
    all_goals first | k_is | rfl | decide | with_unfolding_all rfl | skip

end
end
noncomputable section